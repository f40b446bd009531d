package tests

import (
	"math"
	"slices"
	"testing"

	"loop.example/underveil/impl"
)

// draws returns a function that draws numbers from 0 to n-1, the same ones in each run of the tests.
func draws(state uint32) func(n int) int {
	return func(n int) int {
		state = state*1664525 + 1013904223
		return int(state>>8) % n
	}
}

// drawnPolynomial returns n coefficients that are drawn, the last one of them not 0.
func drawnPolynomial(draw func(int) int, n int) []int {
	p := make([]int, n)
	for i := range p {
		p[i] = draw(113)
	}
	if n > 0 {
		p[n-1] = 1 + draw(112)
	}
	return p
}

// somePolynomials returns polynomials with each number of coefficients from 0 to 20: the sparsest and the greatest one, and drawn ones.
func somePolynomials() [][]int {
	draw := draws(2)
	list := [][]int{nil, {}}
	for n := 1; n <= 20; n++ {
		sparse := make([]int, n)
		sparse[n-1] = 1
		list = append(list, sparse, slices.Repeat([]int{112}, n), drawnPolynomial(draw, n), drawnPolynomial(draw, n))
	}
	return list
}

// notPolynomials returns lists that are no polynomials: too long, with a last coefficient 0, or with a coefficient that is no number.
func notPolynomials() [][]int {
	list := [][]int{slices.Repeat([]int{1}, 21), slices.Repeat([]int{0}, 21), slices.Repeat([]int{112}, 22), slices.Repeat([]int{1}, 1000)}
	for n := 1; n <= 20; n++ {
		p := slices.Repeat([]int{1}, n)
		p[n-1] = 0
		list = append(list, p, make([]int, n))
	}
	for _, n := range []int{1, 2, 20} {
		for i := range n {
			for _, bad := range notNumbers() {
				p := slices.Repeat([]int{1}, n)
				p[i] = bad
				list = append(list, p)
			}
		}
	}
	return list
}

// valueAt reckons the value of a polynomial at a number, power by power.
func valueAt(p []int, x int) int {
	value, power := 0, 1
	for _, a := range p {
		value = (value + a*power) % 113
		power = power * x % 113
	}
	return value
}

// withoutZeros returns a list without the zeros at its end.
func withoutZeros(p []int) []int {
	for len(p) > 0 && p[len(p)-1] == 0 {
		p = p[:len(p)-1]
	}
	return p
}

// sumOf reckons the sum of two polynomials.
func sumOf(p, q []int) []int {
	sum := make([]int, 20)
	for i := range sum {
		if i < len(p) {
			sum[i] += p[i]
		}
		if i < len(q) {
			sum[i] += q[i]
		}
		sum[i] %= 113
	}
	return withoutZeros(sum)
}

// productOf reckons the product of two polynomials.
func productOf(p, q []int) []int {
	product := make([]int, 40)
	for i, a := range p {
		for j, b := range q {
			product[i+j] = (product[i+j] + a*b) % 113
		}
	}
	return withoutZeros(product)
}

// wantPolynomial fails the test unless a result is a polynomial and true; it returns the polynomial.
func wantPolynomial(t *testing.T, name string, got []int, ok bool) []int {
	t.Helper()
	isNumber := func(a int) bool { return 0 <= a && a <= 112 }
	if !ok || len(got) > 20 || len(got) > 0 && got[len(got)-1] == 0 || slices.ContainsFunc(got, func(a int) bool { return !isNumber(a) }) {
		t.Fatalf("%s is %v, %v, no polynomial", name, got, ok)
	}
	return got
}

// wantNoList fails the test unless a result is nothing and false.
func wantNoList(t *testing.T, name string, got []int, ok bool) {
	t.Helper()
	if len(got) != 0 || ok {
		t.Errorf("%s is %v, %v, not nothing and false", name, got, ok)
	}
}

func polyAt(t *testing.T, p []int, x int) int {
	t.Helper()
	value, ok := impl.PolyAt(p, x)
	return wantNumber(t, "PolyAt", value, ok)
}

func polyAdd(t *testing.T, p, q []int) []int {
	t.Helper()
	sum, ok := impl.PolyAdd(p, q)
	return wantPolynomial(t, "PolyAdd", sum, ok)
}

func polyMul(t *testing.T, p, q []int) []int {
	t.Helper()
	product, ok := impl.PolyMul(p, q)
	return wantPolynomial(t, "PolyMul", product, ok)
}

func polyDivide(t *testing.T, a, b []int) ([]int, []int) {
	t.Helper()
	quotient, rest, ok := impl.PolyDivide(a, b)
	return wantPolynomial(t, "the quotient", quotient, ok), wantPolynomial(t, "the rest", rest, ok)
}

func polyThrough(t *testing.T, list []impl.Point) []int {
	t.Helper()
	p, ok := impl.PolyThrough(list)
	return wantPolynomial(t, "PolyThrough", p, ok)
}

// P10
func TestPolyAtIsToldAtZeroJustOfPolynomials(t *testing.T) {
	for _, p := range somePolynomials() {
		if !impl.PolyOk(p) {
			t.Errorf("PolyOk(%v) is false", p)
		}
		if got, want := polyAt(t, p, 0), valueAt(p, 0); got != want {
			t.Errorf("PolyAt(%v, 0) is %d, not %d", p, got, want)
		}
	}
	for _, p := range notPolynomials() {
		if impl.PolyOk(p) {
			t.Errorf("PolyOk(%v) is true", p)
		}
		for _, x := range []int{0, 1, 112, 113, -1, math.MinInt, math.MaxInt} {
			got, ok := impl.PolyAt(p, x)
			wantNothing(t, "PolyAt", got, ok)
		}
	}
}

// P10
func TestPolyAtIsToldJustAtNumbers(t *testing.T) {
	for _, p := range somePolynomials() {
		for _, x := range allNumbers() {
			if got, want := polyAt(t, p, x), valueAt(p, x); got != want {
				t.Errorf("PolyAt(%v, %d) is %d, not %d", p, x, got, want)
			}
		}
		for _, bad := range notNumbers() {
			got, ok := impl.PolyAt(p, bad)
			wantNothing(t, "PolyAt", got, ok)
		}
	}
}

// P11
func TestPolyDivideByXMinusTheNumberLeavesTheValue(t *testing.T) {
	for _, p := range somePolynomials() {
		for _, x := range allNumbers() {
			quotient, rest := polyDivide(t, p, []int{(113 - x) % 113, 1})
			if want := withoutZeros([]int{polyAt(t, p, x)}); !slices.Equal(rest, want) {
				t.Errorf("%v divided by x minus %d leaves %v, not %v", p, x, rest, want)
			}
			if want := max(len(p)-1, 0); len(quotient) != want {
				t.Errorf("%v divided by x minus %d is %v, not %d coefficients", p, x, quotient, want)
			}
		}
	}
}

// P12
func TestPolyAtOfPolyAdd(t *testing.T) {
	for _, p := range somePolynomials() {
		for _, q := range somePolynomials() {
			sum := polyAdd(t, p, q)
			if want := sumOf(p, q); !slices.Equal(sum, want) {
				t.Errorf("PolyAdd(%v, %v) is %v, not %v", p, q, sum, want)
			}
			for _, x := range allNumbers() {
				if got, want := polyAt(t, sum, x), add(t, polyAt(t, p, x), polyAt(t, q, x)); got != want {
					t.Fatalf("PolyAt of PolyAdd(%v, %v) at %d is %d, not %d", p, q, x, got, want)
				}
			}
		}
	}
}

// P12
func TestPolyAddWhoseGreatestCoefficientsCancel(t *testing.T) {
	for _, p := range somePolynomials() {
		minus := make([]int, len(p))
		for i, a := range p {
			minus[i] = (113 - a) % 113
		}
		if got := polyAdd(t, p, minus); len(got) != 0 {
			t.Errorf("PolyAdd(%v, %v) is %v, not 0", p, minus, got)
		}
	}
	for _, c := range []struct{ p, q, want []int }{
		{[]int{1, 2, 3}, []int{5, 6, 110}, []int{6, 8}},
		{[]int{1, 112, 3}, []int{5, 1, 110}, []int{6}},
		{[]int{0, 0, 0, 7}, []int{0, 4, 0, 106}, []int{0, 4}},
		{[]int{112}, []int{1}, nil},
		{[]int{112}, []int{112}, []int{111}},
		{nil, []int{3}, []int{3}},
		{[]int{3}, nil, []int{3}},
		{nil, nil, nil},
	} {
		if got := polyAdd(t, c.p, c.q); !slices.Equal(got, c.want) {
			t.Errorf("PolyAdd(%v, %v) is %v, not %v", c.p, c.q, got, c.want)
		}
	}
}

// P13
func TestPolyAtOfPolyMul(t *testing.T) {
	for _, p := range somePolynomials() {
		for _, q := range somePolynomials() {
			want := productOf(p, q)
			if len(want) > 20 {
				got, ok := impl.PolyMul(p, q)
				wantNoList(t, "PolyMul", got, ok)
				continue
			}
			product := polyMul(t, p, q)
			if !slices.Equal(product, want) {
				t.Errorf("PolyMul(%v, %v) is %v, not %v", p, q, product, want)
			}
			if len(p) > 0 && len(q) > 0 && len(product)-1 != len(p)-1+len(q)-1 {
				t.Errorf("PolyMul(%v, %v) is %v: the degrees do not add", p, q, product)
			}
			for _, x := range allNumbers() {
				if got, want := polyAt(t, product, x), mul(t, polyAt(t, p, x), polyAt(t, q, x)); got != want {
					t.Fatalf("PolyAt of PolyMul(%v, %v) at %d is %d, not %d", p, q, x, got, want)
				}
			}
		}
	}
}

// P13: a product has one coefficient less than both together, or is 0 if one is.
func TestPolyMulHasAtMostTwentyCoefficients(t *testing.T) {
	draw := draws(13)
	for n := 1; n <= 20; n++ {
		p := drawnPolynomial(draw, n)
		if got := polyMul(t, p, drawnPolynomial(draw, 21-n)); len(got) != 20 {
			t.Errorf("the product of %d and %d coefficients has %d", n, 21-n, len(got))
		}
		if n > 1 {
			got, ok := impl.PolyMul(p, drawnPolynomial(draw, 22-n))
			wantNoList(t, "PolyMul", got, ok)
		}
		if got := polyMul(t, p, nil); len(got) != 0 {
			t.Errorf("PolyMul(%v, 0) is %v", p, got)
		}
		if got := polyMul(t, nil, p); len(got) != 0 {
			t.Errorf("PolyMul(0, %v) is %v", p, got)
		}
	}
	greatest := slices.Repeat([]int{112}, 20)
	got, ok := impl.PolyMul(greatest, greatest)
	wantNoList(t, "PolyMul", got, ok)
}

// P14
func TestPolyMulOfTheQuotientAndTheRestAddUp(t *testing.T) {
	for _, a := range somePolynomials() {
		for _, b := range somePolynomials() {
			if len(b) == 0 {
				quotient, rest, ok := impl.PolyDivide(a, b)
				wantNoList(t, "the quotient by 0", quotient, ok)
				wantNoList(t, "the rest by 0", rest, ok)
				continue
			}
			quotient, rest := polyDivide(t, a, b)
			if got := polyAdd(t, polyMul(t, quotient, b), rest); !slices.Equal(got, a) {
				t.Errorf("%v divided by %v is %v and %v, which add up to %v", a, b, quotient, rest, got)
			}
			if len(rest) >= len(b) {
				t.Errorf("%v divided by %v leaves %v", a, b, rest)
			}
		}
	}
}

// P14, with answers reckoned by hand: divisors whose last coefficient is not 1, shorter dividends, and divisions that leave nothing.
func TestPolyDivideReckonedByHand(t *testing.T) {
	for _, c := range []struct{ a, b, quotient, rest []int }{
		{[]int{1, 0, 1}, []int{112, 1}, []int{1, 1}, []int{2}},
		{[]int{1, 1}, []int{0, 2}, []int{57}, []int{1}},                   // 57 is one half
		{[]int{3, 5, 2}, []int{1, 2}, []int{2, 1}, []int{1}},              // (2x+1)(x+2) = 2x^2 + 5x + 2
		{[]int{2, 5, 2}, []int{1, 2}, []int{2, 1}, nil},                   // and nothing is left
		{[]int{0, 0, 0, 1}, []int{1, 0, 112}, []int{0, 112}, []int{0, 1}}, // x^3 = -x * (1-x^2) + x
		{[]int{5, 6, 7}, []int{112}, []int{108, 107, 106}, nil},
		{[]int{5, 6, 7}, []int{7, 6, 5, 4}, nil, []int{5, 6, 7}},
		{[]int{5, 6, 7}, []int{5, 6, 7}, []int{1}, nil},
		{[]int{10, 12, 14}, []int{5, 6, 7}, []int{2}, nil},
		{[]int{9}, []int{3}, []int{3}, nil},
		{[]int{9}, []int{0, 3}, nil, []int{9}},
		{nil, []int{0, 3}, nil, nil},
		{nil, []int{3}, nil, nil},
	} {
		quotient, rest := polyDivide(t, c.a, c.b)
		if !slices.Equal(quotient, c.quotient) || !slices.Equal(rest, c.rest) {
			t.Errorf("%v divided by %v is %v and %v, not %v and %v", c.a, c.b, quotient, rest, c.quotient, c.rest)
		}
	}
}

// P14: divisors with each number of coefficients and each last coefficient.
func TestPolyDivideTakesAProductApart(t *testing.T) {
	draw := draws(14)
	for last := 1; last <= 112; last++ {
		for n := 1; n <= 20; n++ {
			b := drawnPolynomial(draw, n)
			b[n-1] = last
			wantQuotient := drawnPolynomial(draw, draw(22-n))
			wantRest := drawnPolynomial(draw, draw(n))
			quotient, rest := polyDivide(t, sumOf(productOf(wantQuotient, b), wantRest), b)
			if !slices.Equal(quotient, wantQuotient) || !slices.Equal(rest, wantRest) {
				t.Errorf("%v times %v and %v is taken apart to %v and %v", b, wantQuotient, wantRest, quotient, rest)
			}
		}
	}
}

// drawnPoints returns n points with different X, in no order, of which the Y are drawn.
func drawnPoints(draw func(int) int, n int) []impl.Point {
	xs := allNumbers()
	list := make([]impl.Point, n)
	for i := range list {
		j := i + draw(113-i)
		xs[i], xs[j] = xs[j], xs[i]
		list[i] = impl.Point{X: xs[i], Y: draw(113)}
	}
	return list
}

// wantThrough fails the test unless PolyThrough has all values and no more coefficients than there are points.
func wantThrough(t *testing.T, list []impl.Point) {
	t.Helper()
	p := polyThrough(t, list)
	if len(p) > len(list) {
		t.Errorf("PolyThrough(%v) is %v", list, p)
	}
	for _, point := range list {
		if got := polyAt(t, p, point.X); got != point.Y {
			t.Errorf("PolyAt of PolyThrough(%v) at %d is %d", list, point.X, got)
		}
	}
}

// P15
func TestPolyAtOfPolyThroughHasAllValues(t *testing.T) {
	draw := draws(15)
	for n := 0; n <= 20; n++ {
		for range 50 {
			wantThrough(t, drawnPoints(draw, n))
		}
		zeros := drawnPoints(draw, n)
		for i := range zeros {
			zeros[i].Y = 0
		}
		if p := polyThrough(t, zeros); len(p) != 0 {
			t.Errorf("PolyThrough(%v) is %v, not 0", zeros, p)
		}
	}
	for _, x := range allNumbers() {
		for _, y := range allNumbers() {
			if p, want := polyThrough(t, []impl.Point{{X: x, Y: y}}), withoutZeros([]int{y}); !slices.Equal(p, want) {
				t.Errorf("PolyThrough of the point %d, %d is %v", x, y, p)
			}
			if x != y {
				wantThrough(t, []impl.Point{{X: x, Y: draw(113)}, {X: y, Y: draw(113)}})
			}
		}
	}
	if p := polyThrough(t, nil); len(p) != 0 {
		t.Errorf("PolyThrough of no point is %v", p)
	}
	if p := polyThrough(t, []impl.Point{{X: 1, Y: 2}, {X: 2, Y: 5}, {X: 3, Y: 10}}); !slices.Equal(p, []int{1, 0, 1}) {
		t.Errorf("PolyThrough of squares and one more is %v", p)
	}
}

// P15: not told of two points with the same X, of what is no number, and of more than 20 points.
func TestPolyThroughIsToldJustOfPoints(t *testing.T) {
	draw := draws(150)
	for n := 1; n <= 20; n++ {
		for i := range n {
			for _, bad := range notNumbers() {
				list := drawnPoints(draw, n)
				list[i].X = bad
				p, ok := impl.PolyThrough(list)
				wantNoList(t, "PolyThrough", p, ok)
				list = drawnPoints(draw, n)
				list[i].Y = bad
				p, ok = impl.PolyThrough(list)
				wantNoList(t, "PolyThrough", p, ok)
			}
			for j := range i {
				list := drawnPoints(draw, n)
				list[i].X = list[j].X
				p, ok := impl.PolyThrough(list)
				wantNoList(t, "PolyThrough", p, ok)
				list[i].Y = list[j].Y
				p, ok = impl.PolyThrough(list)
				wantNoList(t, "PolyThrough", p, ok)
			}
		}
	}
	for _, n := range []int{21, 22, 113} {
		p, ok := impl.PolyThrough(drawnPoints(draw, n))
		wantNoList(t, "PolyThrough", p, ok)
	}
	p, ok := impl.PolyThrough(make([]impl.Point, 1000))
	wantNoList(t, "PolyThrough", p, ok)
}

// zerosOf returns how many numbers there are at which PolyAt is 0.
func zerosOf(t *testing.T, p []int) int {
	t.Helper()
	zeros := 0
	for _, x := range allNumbers() {
		if polyAt(t, p, x) == 0 {
			zeros++
		}
	}
	return zeros
}

// P16
func TestPolyAtIsZeroAtFewNumbers(t *testing.T) {
	for _, p := range somePolynomials() {
		zeros := zerosOf(t, p)
		if len(p) > 0 && zeros > len(p)-1 || len(p) == 0 && zeros != 113 {
			t.Errorf("PolyAt of %v is 0 at %d numbers", p, zeros)
		}
	}
	draw := draws(16)
	for range 100 {
		p := []int{1 + draw(112)}
		for i, point := range drawnPoints(draw, 19) {
			p = polyMul(t, p, []int{(113 - point.X) % 113, 1})
			if zeros := zerosOf(t, p); zeros != i+1 || polyAt(t, p, point.X) != 0 {
				t.Errorf("PolyAt of %v is 0 at %d numbers, not %d", p, zeros, i+1)
			}
		}
	}
}

// P17
func TestPolyThroughOfValuesIsThePolynomial(t *testing.T) {
	draw := draws(17)
	for _, p := range somePolynomials() {
		for n := len(p); n <= 20; n++ {
			list := drawnPoints(draw, n)
			for i := range list {
				list[i].Y = polyAt(t, p, list[i].X)
			}
			if got := polyThrough(t, list); !slices.Equal(got, p) {
				t.Errorf("PolyThrough of %d values of %v is %v", n, p, got)
			}
		}
	}
}

// P10 to P17: what is no polynomial is none as either argument.
func TestOperationsAreToldJustOfPolynomials(t *testing.T) {
	wantNone := func(p, q []int) {
		t.Helper()
		sum, ok := impl.PolyAdd(p, q)
		wantNoList(t, "PolyAdd", sum, ok)
		product, ok := impl.PolyMul(p, q)
		wantNoList(t, "PolyMul", product, ok)
		quotient, rest, ok := impl.PolyDivide(p, q)
		wantNoList(t, "the quotient", quotient, ok)
		wantNoList(t, "the rest", rest, ok)
	}
	for _, bad := range notPolynomials() {
		for _, p := range [][]int{nil, {1}, {0, 2}, slices.Repeat([]int{112}, 20)} {
			wantNone(p, bad)
			wantNone(bad, p)
		}
		wantNone(bad, bad)
	}
}

// spare is what the tests keep behind an argument, where a program that appends to the argument would write.
const spare = -7

// withRoom returns a copy of a list, with room for more behind it that is filled.
func withRoom[E any](list []E, behind E) []E {
	room := append(slices.Clone(list), slices.Repeat([]E{behind}, 25)...)
	return room[:len(list)]
}

// withSpare returns a copy of a list of whole numbers, with room for more behind it.
func withSpare(p []int) []int {
	return withRoom(p, spare)
}

// whole returns copies of lists, up to their capacities.
func whole[E any](lists [][]E) [][]E {
	copies := make([][]E, len(lists))
	for i, list := range lists {
		copies[i] = slices.Clone(list[:cap(list)])
	}
	return copies
}

// sameLists reports whether lists are the same, one by one.
func sameLists[E comparable](a, b [][]E) bool {
	return slices.EqualFunc(a, b, slices.Equal[[]E])
}

// wantOwnMemoryOf fails the test if a call changes an argument, or if writing a mark all over a result, up to its capacity, changes an argument or another result.
func wantOwnMemoryOf[A, R comparable](t *testing.T, name string, args [][]A, mark R, call func() [][]R) {
	t.Helper()
	before := whole(args)
	results := call()
	for i, result := range results {
		others := slices.Concat(results[:i], results[i+1:])
		kept, keptArgs := whole(others), whole(args)
		result = result[:cap(result)]
		old := slices.Clone(result)
		for j := range result {
			result[j] = mark
		}
		if !sameLists(whole(others), kept) || !sameLists(whole(args), keptArgs) {
			t.Errorf("%s of %v: result %d shares memory", name, args, i)
		}
		copy(result, old)
	}
	if !sameLists(whole(args), before) {
		t.Errorf("%s changes an argument: %v, and %v before", name, args, before)
	}
	if again := call(); !sameLists(again, results) {
		t.Errorf("%s of %v is %v, and %v before", name, args, again, results)
	}
}

// wantOwnMemory is wantOwnMemoryOf for lists of whole numbers.
func wantOwnMemory(t *testing.T, name string, args [][]int, call func() [][]int) {
	t.Helper()
	wantOwnMemoryOf(t, name, args, spare-1, call)
}

// P10 to P17: the general rules on memory.
func TestPolynomialsOwnTheirMemory(t *testing.T) {
	for _, one := range somePolynomials() {
		for _, other := range somePolynomials() {
			p, q := withSpare(one), withSpare(other)
			wantOwnMemoryOfOperations(t, p, q)
		}
		p := withSpare(one)
		wantOwnMemoryOfOperations(t, p, p)
		wantOwnMemoryOfOperations(t, p[:len(p)/2], p[len(p)/2:])
	}
	for _, bad := range [][]int{{1, 0}, {-1, 1}, {113}, slices.Repeat([]int{1}, 21)} {
		wantOwnMemoryOfOperations(t, withSpare(bad), withSpare([]int{1, 2}))
		wantOwnMemoryOfOperations(t, withSpare([]int{1, 2}), withSpare(bad))
	}
}

// wantOwnMemoryOfOperations fails the test if one of the functions of two lists does not keep the rules on memory.
func wantOwnMemoryOfOperations(t *testing.T, p, q []int) {
	t.Helper()
	args := [][]int{p, q}
	wantOwnMemory(t, "PolyAdd", args, func() [][]int {
		sum, _ := impl.PolyAdd(p, q)
		return [][]int{sum}
	})
	wantOwnMemory(t, "PolyMul", args, func() [][]int {
		product, _ := impl.PolyMul(p, q)
		return [][]int{product}
	})
	wantOwnMemory(t, "PolyDivide", args, func() [][]int {
		quotient, rest, _ := impl.PolyDivide(p, q)
		return [][]int{quotient, rest}
	})
	wantOwnMemory(t, "PolyOk and PolyAt", args, func() [][]int {
		impl.PolyOk(p)
		impl.PolyAt(p, 3)
		return nil
	})
}

// P15: the general rules on memory: points are not changed, those behind the list neither, and no two calls give the same memory.
func TestPolyThroughOwnsItsMemory(t *testing.T) {
	draw := draws(1500)
	for n := 0; n <= 21; n++ {
		room := drawnPoints(draw, 40)
		list, before := room[:n], slices.Clone(room)
		first, _ := impl.PolyThrough(list)
		old := slices.Clone(first)
		second, _ := impl.PolyThrough(list)
		second = second[:cap(second)]
		for i := range second {
			second[i] = spare
		}
		if !slices.Equal(first, old) {
			t.Errorf("two calls of PolyThrough(%v) share memory", list)
		}
		if !slices.Equal(room, before) {
			t.Errorf("PolyThrough of %d points changes %v to %v", n, before, room)
		}
		third, _ := impl.PolyThrough(list)
		if !slices.Equal(third, old) {
			t.Errorf("PolyThrough(%v) is %v, and %v before", list, third, old)
		}
	}
}
