package tests

import (
	"math"
	"slices"
	"testing"

	"loop.example/underveil/impl"
)

// Numbers and elements are written out here and in the helpers, so that a wrong constant of the program is seen.

// allNumbers returns 0 to 112.
func allNumbers() []int {
	list := make([]int, 113)
	for i := range list {
		list[i] = i
	}
	return list
}

// notNumbers returns whole numbers that are no numbers, among them some that are numbers but for multiples of 113.
func notNumbers() []int {
	list := []int{math.MinInt, math.MinInt + 1, math.MinInt32, -1 << 32, math.MaxInt32, 1 << 32, 1<<32 + 1, math.MaxInt - 1, math.MaxInt}
	for i := 1; i <= 400; i++ {
		list = append(list, -i, 112+i)
	}
	return list
}

// allElements returns the 113 squares modulo 227, ascending: 226 is twice 113, so just the squares have the power 113 that is 1.
func allElements() []int {
	var list []int
	for x := 1; x < 227; x++ {
		list = append(list, x*x%227)
	}
	slices.Sort(list)
	return slices.Compact(list)
}

// notElements returns whole numbers that are no elements, among them some that are elements but for multiples of 227.
func notElements() []int {
	elements := allElements()
	list := []int{math.MinInt, math.MinInt + 1, math.MinInt32, -1 << 32, math.MaxInt32, 1 << 32, 1<<32 + 1, math.MaxInt - 1, math.MaxInt}
	for g := -500; g <= 700; g++ {
		if !slices.Contains(elements, g) {
			list = append(list, g)
		}
	}
	return list
}

// wantNumber fails the test unless a result is a number and true; it returns the number.
func wantNumber(t *testing.T, name string, got int, ok bool) int {
	t.Helper()
	if !ok || got < 0 || got > 112 {
		t.Fatalf("%s is %d, %v, no number", name, got, ok)
	}
	return got
}

// wantElement fails the test unless a result is from 1 to 226 and true; it returns the element.
func wantElement(t *testing.T, name string, got int, ok bool) int {
	t.Helper()
	if !ok || got < 1 || got > 226 {
		t.Fatalf("%s is %d, %v, no element", name, got, ok)
	}
	return got
}

// wantNothing fails the test unless a result is 0 and false.
func wantNothing(t *testing.T, name string, got int, ok bool) {
	t.Helper()
	if got != 0 || ok {
		t.Errorf("%s is %d, %v, not 0 and false", name, got, ok)
	}
}

func add(t *testing.T, a, b int) int {
	t.Helper()
	sum, ok := impl.NumAdd(a, b)
	return wantNumber(t, "NumAdd", sum, ok)
}

func sub(t *testing.T, a, b int) int {
	t.Helper()
	difference, ok := impl.NumSub(a, b)
	return wantNumber(t, "NumSub", difference, ok)
}

func mul(t *testing.T, a, b int) int {
	t.Helper()
	product, ok := impl.NumMul(a, b)
	return wantNumber(t, "NumMul", product, ok)
}

func elementMul(t *testing.T, g, h int) int {
	t.Helper()
	product, ok := impl.ElementMul(g, h)
	return wantElement(t, "ElementMul", product, ok)
}

func elementPow(t *testing.T, g, e int) int {
	t.Helper()
	power, ok := impl.ElementPow(g, e)
	return wantElement(t, "ElementPow", power, ok)
}

func elementLog(t *testing.T, g int) int {
	t.Helper()
	log, ok := impl.ElementLog(g)
	return wantNumber(t, "ElementLog", log, ok)
}

// P1
func TestNumAddIsToldJustOfNumbers(t *testing.T) {
	for _, a := range allNumbers() {
		if !impl.NumOk(a) {
			t.Errorf("NumOk(%d) is false", a)
		}
		for _, b := range allNumbers() {
			if got := add(t, a, b); got != (a+b)%113 {
				t.Errorf("NumAdd(%d, %d) is %d", a, b, got)
			}
		}
	}
	for _, a := range notNumbers() {
		if impl.NumOk(a) {
			t.Errorf("NumOk(%d) is true", a)
		}
	}
	wantNothingOfNotNumbers(t, "NumAdd", impl.NumAdd)
}

// wantNothingOfNotNumbers fails the test unless a function of two numbers tells nothing if one or both are none.
func wantNothingOfNotNumbers(t *testing.T, name string, told func(int, int) (int, bool)) {
	t.Helper()
	for _, bad := range notNumbers() {
		for _, a := range allNumbers() {
			got, ok := told(a, bad)
			wantNothing(t, name, got, ok)
			got, ok = told(bad, a)
			wantNothing(t, name, got, ok)
		}
		for _, other := range notNumbers() {
			got, ok := told(bad, other)
			wantNothing(t, name, got, ok)
		}
	}
}

// P2
func TestNumSubOfNumAdd(t *testing.T) {
	for _, a := range allNumbers() {
		for _, b := range allNumbers() {
			if got := sub(t, add(t, a, b), b); got != a {
				t.Errorf("NumSub of NumAdd(%d, %d) and %d is %d", a, b, b, got)
			}
		}
	}
}

// P3
func TestNumAddOfNumSub(t *testing.T) {
	for _, a := range allNumbers() {
		for _, b := range allNumbers() {
			if got := sub(t, a, b); got != (a-b+113)%113 {
				t.Errorf("NumSub(%d, %d) is %d", a, b, got)
			}
			if got := add(t, sub(t, a, b), b); got != a {
				t.Errorf("NumAdd of NumSub(%d, %d) and %d is %d", a, b, b, got)
			}
		}
	}
	wantNothingOfNotNumbers(t, "NumSub", impl.NumSub)
}

// P4
func TestNumMulIsZeroOnlyOfZero(t *testing.T) {
	for _, a := range allNumbers() {
		for _, b := range allNumbers() {
			got := mul(t, a, b)
			if got != a*b%113 {
				t.Errorf("NumMul(%d, %d) is %d", a, b, got)
			}
			if (got == 0) != (a == 0 || b == 0) {
				t.Errorf("NumMul(%d, %d) is %d", a, b, got)
			}
			if turned := mul(t, b, a); turned != got {
				t.Errorf("NumMul(%d, %d) is %d, but %d in the other order", a, b, got, turned)
			}
		}
	}
	wantNothingOfNotNumbers(t, "NumMul", impl.NumMul)
}

// P5
func TestNumMulOfNumInvIsOne(t *testing.T) {
	for _, a := range allNumbers()[1:] {
		inverse, ok := impl.NumInv(a)
		if got := mul(t, a, wantNumber(t, "NumInv", inverse, ok)); got != 1 {
			t.Errorf("NumMul of %d and NumInv, %d, is %d", a, inverse, got)
		}
	}
	for _, bad := range append(notNumbers(), 0) {
		got, ok := impl.NumInv(bad)
		wantNothing(t, "NumInv", got, ok)
	}
}

// P6
func TestElementLogIsToldJustOfElements(t *testing.T) {
	elements := allElements()
	if len(elements) != 113 {
		t.Fatalf("%d elements", len(elements))
	}
	for _, g := range elements {
		elementLog(t, g)
		if !impl.ElementOk(g) {
			t.Errorf("ElementOk(%d) is false", g)
		}
	}
	for _, g := range notElements() {
		got, ok := impl.ElementLog(g)
		wantNothing(t, "ElementLog", got, ok)
		if impl.ElementOk(g) {
			t.Errorf("ElementOk(%d) is true", g)
		}
	}
}

// P7
func TestElementLogOfElementMul(t *testing.T) {
	elements := allElements()
	for _, g := range elements {
		for _, h := range elements {
			product := elementMul(t, g, h)
			if product != g*h%227 {
				t.Errorf("ElementMul(%d, %d) is %d", g, h, product)
			}
			if got, want := elementLog(t, product), add(t, elementLog(t, g), elementLog(t, h)); got != want {
				t.Errorf("ElementLog of ElementMul(%d, %d) is %d, not %d", g, h, got, want)
			}
		}
	}
	for _, bad := range notElements() {
		for _, g := range elements {
			got, ok := impl.ElementMul(g, bad)
			wantNothing(t, "ElementMul", got, ok)
			got, ok = impl.ElementMul(bad, g)
			wantNothing(t, "ElementMul", got, ok)
		}
		for _, other := range notElements() {
			got, ok := impl.ElementMul(bad, other)
			wantNothing(t, "ElementMul", got, ok)
		}
	}
}

// P8
func TestElementLogOfElementPow(t *testing.T) {
	elements := allElements()
	for _, g := range elements {
		want := 1
		for _, e := range allNumbers() {
			power := elementPow(t, g, e)
			if power != want {
				t.Errorf("ElementPow(%d, %d) is %d, not %d", g, e, power, want)
			}
			if got, want := elementLog(t, power), mul(t, elementLog(t, g), e); got != want {
				t.Errorf("ElementLog of ElementPow(%d, %d) is %d, not %d", g, e, got, want)
			}
			want = want * g % 227
		}
		if want != 1 {
			t.Errorf("the power 113 of %d is %d, not 1", g, want)
		}
	}
}

// P8
func TestElementPowIsToldJustOfElementsAndNumbers(t *testing.T) {
	for _, bad := range notElements() {
		for _, e := range allNumbers() {
			got, ok := impl.ElementPow(bad, e)
			wantNothing(t, "ElementPow", got, ok)
		}
		for _, other := range notNumbers() {
			got, ok := impl.ElementPow(bad, other)
			wantNothing(t, "ElementPow", got, ok)
		}
	}
	for _, g := range allElements() {
		for _, bad := range notNumbers() {
			got, ok := impl.ElementPow(g, bad)
			wantNothing(t, "ElementPow", got, ok)
		}
	}
}

// P9
func TestElementPowOfElementLog(t *testing.T) {
	for _, g := range allElements() {
		if got := elementPow(t, 4, elementLog(t, g)); got != g {
			t.Errorf("ElementPow of BaseG with ElementLog of %d is %d", g, got)
		}
	}
	power := 1
	for _, e := range allNumbers() {
		if got := elementLog(t, power); got != e {
			t.Errorf("ElementLog of the power %d of BaseG is %d", e, got)
		}
		power = power * 4 % 227
	}
}

// P1 to P9, at the edges: the greatest number and the element 1, with answers reckoned by hand.
func TestEdgesOfNumbersAndElements(t *testing.T) {
	for _, c := range []struct {
		name      string
		told      func(int, int) (int, bool)
		a, b, got int
	}{
		{"NumAdd", impl.NumAdd, 112, 112, 111}, {"NumAdd", impl.NumAdd, 112, 1, 0}, {"NumAdd", impl.NumAdd, 0, 112, 112},
		{"NumSub", impl.NumSub, 112, 112, 0}, {"NumSub", impl.NumSub, 0, 112, 1}, {"NumSub", impl.NumSub, 0, 1, 112},
		{"NumMul", impl.NumMul, 112, 112, 1}, {"NumMul", impl.NumMul, 112, 2, 111}, {"NumMul", impl.NumMul, 112, 0, 0},
		{"ElementMul", impl.ElementMul, 1, 1, 1}, {"ElementMul", impl.ElementMul, 1, 9, 9}, {"ElementMul", impl.ElementMul, 4, 57, 1},
		{"ElementPow", impl.ElementPow, 1, 112, 1}, {"ElementPow", impl.ElementPow, 1, 0, 1}, {"ElementPow", impl.ElementPow, 9, 0, 1},
		{"ElementPow", impl.ElementPow, 4, 112, 57}, {"ElementPow", impl.ElementPow, 9, 1, 9},
	} {
		if got, ok := c.told(c.a, c.b); !ok || got != c.got {
			t.Errorf("%s(%d, %d) is %d, %v, not %d", c.name, c.a, c.b, got, ok, c.got)
		}
	}
	for _, c := range []struct {
		name   string
		told   func(int) (int, bool)
		a, got int
	}{
		{"NumInv", impl.NumInv, 112, 112}, {"NumInv", impl.NumInv, 1, 1}, {"NumInv", impl.NumInv, 111, 56},
		{"ElementLog", impl.ElementLog, 1, 0}, {"ElementLog", impl.ElementLog, 4, 1}, {"ElementLog", impl.ElementLog, 57, 112},
	} {
		if got, ok := c.told(c.a); !ok || got != c.got {
			t.Errorf("%s(%d) is %d, %v, not %d", c.name, c.a, got, ok, c.got)
		}
	}
}
