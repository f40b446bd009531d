package impl

// FieldMod is the prime modulus of the numbers.
const FieldMod = 113

// GroupMod is the prime modulus of the elements, twice FieldMod and one more.
const GroupMod = 227

// BaseG is the element of which powers are taken.
const BaseG = 4

// BaseH is another element of which powers are taken.
const BaseH = 9

// number is a whole number that is reckoned with modulo FieldMod, once it is ok.
type number int

// ok reports whether a is one of the numbers.
func (a number) ok() bool {
	return 0 <= a && a < FieldMod
}

// plus returns the sum of two numbers that are ok.
func (a number) plus(b number) number {
	return (a + b) % FieldMod
}

// minus returns the difference of two numbers that are ok. FieldMod comes first, as a remainder of Go may be below 0.
func (a number) minus(b number) number {
	return (a + FieldMod - b) % FieldMod
}

// times returns the product of two numbers that are ok.
func (a number) times(b number) number {
	return a * b % FieldMod
}

// inverse returns the power FieldMod-2 of a number that is ok and not 0, as its power FieldMod-1 is 1.
func (a number) inverse() number {
	return number(powerModulo(int(a), FieldMod-2, FieldMod))
}

// element is a whole number that is reckoned with modulo GroupMod, once it is ok.
type element int

// ok reports whether g is an element. The range is checked first, so that no product overflows.
func (g element) ok() bool {
	return 0 < g && g < GroupMod && powerModulo(int(g), FieldMod, GroupMod) == 1
}

// times returns the product of two elements that are ok.
func (g element) times(h element) element {
	return g * h % GroupMod
}

// over returns the quotient of two elements that are ok: the power FieldMod of h is 1, so the one before it is what h times is 1.
func (g element) over(h element) element {
	return g.times(h.power(FieldMod - 1))
}

// power returns the power of an element that is ok with a number that is ok as exponent.
func (g element) power(e number) element {
	return element(powerModulo(int(g), int(e), GroupMod))
}

// log returns the number of which the power of BaseG is g, and true. What is none of the powers of BaseG is no element.
func (g element) log() (number, bool) {
	power := element(1)
	for e := range number(FieldMod) {
		if power == g {
			return e, true
		}
		power = power.times(BaseG)
	}
	return 0, false
}

// powerModulo returns the remainder of a power, by repeated squaring. Base and exponent are not below 0, and the base is less than the modulus.
func powerModulo(base int, exponent int, modulus int) int {
	power := 1
	for ; exponent > 0; exponent /= 2 {
		if exponent%2 == 1 {
			power = power * base % modulus
		}
		base = base * base % modulus
	}
	return power
}

// numbersOk reports whether all of a list are numbers.
func numbersOk(list []int) bool {
	for _, a := range list {
		if !NumOk(a) {
			return false
		}
	}
	return true
}

// manyNumbers reports whether a list is just so many numbers.
func manyNumbers(list []int, many int) bool {
	return len(list) == many && numbersOk(list)
}

// elementsOk reports whether all of a list are elements.
func elementsOk(list []int) bool {
	for _, g := range list {
		if !ElementOk(g) {
			return false
		}
	}
	return true
}

// NumOk reports whether a is one of the numbers.
func NumOk(a int) bool {
	return number(a).ok()
}

// NumAdd returns the sum of two numbers and true.
func NumAdd(a int, b int) (int, bool) {
	if !NumOk(a) || !NumOk(b) {
		return 0, false
	}
	return int(number(a).plus(number(b))), true
}

// NumSub returns the difference of two numbers and true.
func NumSub(a int, b int) (int, bool) {
	if !NumOk(a) || !NumOk(b) {
		return 0, false
	}
	return int(number(a).minus(number(b))), true
}

// NumMul returns the product of two numbers and true.
func NumMul(a int, b int) (int, bool) {
	if !NumOk(a) || !NumOk(b) {
		return 0, false
	}
	return int(number(a).times(number(b))), true
}

// NumInv returns the number that times a is 1, and true.
func NumInv(a int) (int, bool) {
	if !NumOk(a) || a == 0 {
		return 0, false
	}
	return int(number(a).inverse()), true
}

// ElementOk reports whether g is an element.
func ElementOk(g int) bool {
	return element(g).ok()
}

// ElementMul returns the product of two elements and true.
func ElementMul(g int, h int) (int, bool) {
	if !ElementOk(g) || !ElementOk(h) {
		return 0, false
	}
	return int(element(g).times(element(h))), true
}

// ElementPow returns the power of an element with a number as exponent, and true.
func ElementPow(g int, e int) (int, bool) {
	if !ElementOk(g) || !NumOk(e) {
		return 0, false
	}
	return int(element(g).power(number(e))), true
}

// ElementLog returns the number e of which the power of BaseG is an element, and true.
func ElementLog(g int) (int, bool) {
	e, ok := element(g).log()
	return int(e), ok
}
