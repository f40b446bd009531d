package tests

import (
	"fmt"
	"slices"
	"testing"

	"loop.example/underveil/impl"
)

// valueTable tells what each value counts at a number: counts[n][x][k] is that of the value at k+1 for the value at x of the polynomial of least degree through n values, at 1 to n.
type valueTable struct {
	counts [17][113][]int
}

// tableOfValues reckons what values count at all numbers.
func tableOfValues() *valueTable {
	var inverses [113]int
	for a := range inverses {
		for b := range inverses {
			if a*b%113 == 1 {
				inverses[a] = b
			}
		}
	}
	table := &valueTable{}
	for n := 1; n <= 16; n++ {
		for x := range 113 {
			counts := make([]int, n)
			for k := range counts {
				counts[k] = 1
				for other := range n {
					if other != k {
						counts[k] = counts[k] * (x + 112 - other) * inverses[(k+113-other)%113] % 113
					}
				}
			}
			table.counts[n][x] = counts
		}
	}
	return table
}

// valueAt reckons the value at a number of the polynomial through values at 1, 2 and so on.
func (table *valueTable) valueAt(values []int, x int) int {
	return timesWitness(table.counts[len(values)][x], values)
}

// sumsOf reckons what the lists A, B and C of all constraints come to.
func (x constrained) sumsOf() (a, b, c []int) {
	for _, r := range x.rows {
		a, b, c = append(a, timesWitness(r.A, x.w)), append(b, timesWitness(r.B, x.w)), append(c, timesWitness(r.C, x.w))
	}
	return a, b, c
}

// quotiented is constraints and a witness, with what comes of them at each number: a*b - c, and the target.
type quotiented struct {
	constrained
	left, target [113]int
}

// quotiented reckons a*b - c and the target at each number.
func (table *valueTable) quotiented(x constrained) quotiented {
	r := quotiented{constrained: x}
	a, b, c := x.sumsOf()
	for at := range 113 {
		r.left[at] = (table.valueAt(a, at)*table.valueAt(b, at) + 113 - table.valueAt(c, at)) % 113
		r.target[at] = 1
		for k := range x.rows {
			r.target[at] = r.target[at] * (at + 112 - k) % 113
		}
	}
	return r
}

// holds reckons whether the equation holds at a number for a quotient.
func (r quotiented) holds(q []int, at int) bool {
	return r.left[at] == valueAt(q, at)*r.target[at]%113
}

// passes reckons at how many numbers the equation holds for a quotient.
func (r quotiented) passes(q []int) int {
	many := 0
	for at := range 113 {
		many += oneIf(r.holds(q, at))
	}
	return many
}

// fitting returns a quotient of at most so many coefficients, for which the equation holds at as many numbers beside 1 to the number of constraints.
func (r quotiented) fitting(t *testing.T, draw func(int) int, many int) []int {
	t.Helper()
	var list []impl.Point
	for x := draw(113); len(list) < many; x = (x + 1) % 113 {
		if r.target[x] != 0 {
			y := slices.IndexFunc(allNumbers(), func(y int) bool { return y*r.target[x]%113 == r.left[x] })
			list = append(list, impl.Point{X: x, Y: y})
		}
	}
	return polyThrough(t, list)
}

// someQuotients returns what may be told as a quotient: the polynomial 0, ones of 1 to 20 numbers, and ones that are wrong in one coefficient of a given one.
func someQuotients(draw func(int) int, right []int) [][]int {
	list := [][]int{nil, {}, right, {1}, {112}, slices.Repeat([]int{112}, 20), drawnPolynomial(draw, 20), drawnPolynomial(draw, 1+draw(20))}
	for _, i := range []int{0, len(right) - 1, len(right), draw(20), 19} {
		wrong := append(slices.Clone(right), make([]int, 20-len(right))...)
		at := max(i, 0)
		wrong[at] = (wrong[at] + 1 + draw(112)) % 113
		list = append(list, withoutZeros(wrong))
	}
	return list
}

// wrongAtOneGate returns the constraints and witnesses of circuits, and for the first, a middle and the last gate the witness with another number there.
func wrongAtOneGate(draw func(int) int) []constrained {
	var list []constrained
	for _, c := range someCircuits(draw) {
		ins := drawnList(draw, c.Inputs)
		x := constrained{rowsReckoned(c), witnessReckoned(c, ins)}
		list = append(list, x)
		for _, gate := range []int{0, len(c.Gates) / 2, len(c.Gates) - 1} {
			wrong := x.clone()
			at := 1 + c.Inputs + gate
			wrong.w[at] = (wrong.w[at] + 1 + draw(112)) % 113
			list = append(list, wrong)
		}
	}
	return list
}

// fewConstrained returns one of every so many of some constraints, and those of which there are most on the longest witness.
func fewConstrained(draw func(int) int, every int) []constrained {
	var list []constrained
	for i, x := range slices.Concat(someConstrained(draw), circuitsConstrained(draw), wrongAtOneGate(draw)) {
		if i%every == 0 || len(x.w) == 23 && len(x.rows) == 16 {
			list = append(list, x)
		}
	}
	return list
}

func quotientTarget(t *testing.T, n int) []int {
	t.Helper()
	target, ok := impl.QuotientTarget(n)
	return wantPolynomial(t, fmt.Sprintf("QuotientTarget(%d)", n), target, ok)
}

func quotientOf(t *testing.T, x constrained) []int {
	t.Helper()
	q, ok := impl.QuotientOf(x.rows, x.w)
	return wantPolynomial(t, fmt.Sprintf("QuotientOf(%v, %v)", x.rows, x.w), q, ok)
}

// wantPasses fails the test unless QuotientHolds is as reckoned at each number, and QuotientPasses as often.
func wantPasses(t *testing.T, r quotiented, q []int) {
	t.Helper()
	for _, at := range allNumbers() {
		if got := impl.QuotientHolds(r.rows, r.w, q, at); got != r.holds(q, at) {
			t.Errorf("QuotientHolds(%v, %v, %v, %d) is %v", r.rows, r.w, q, at, got)
		}
	}
	if got, want := impl.QuotientPasses(r.rows, r.w, q), r.passes(q); got != want {
		t.Errorf("QuotientPasses(%v, %v, %v) is %d, not %d", r.rows, r.w, q, got, want)
	}
}

// wantNoQuotient fails the test unless nothing is told of a quotient, and the equation holds at no number and is tried at none.
func wantNoQuotient(t *testing.T, x constrained, q []int) {
	t.Helper()
	if told, ok := impl.QuotientOf(x.rows, x.w); ok || len(told) != 0 {
		t.Errorf("QuotientOf(%v, %v) is %v, %v", x.rows, x.w, told, ok)
	}
	wantNotTried(t, x, q)
}

// wantNotTried fails the test unless the equation holds at no number, and is tried at none.
func wantNotTried(t *testing.T, x constrained, q []int) {
	t.Helper()
	if got := impl.QuotientPasses(x.rows, x.w, q); got != -1 {
		t.Errorf("QuotientPasses(%v, %v, %v) is %d", x.rows, x.w, q, got)
	}
	for _, at := range []int{0, 1, 2, 16, 17, 112} {
		if impl.QuotientHolds(x.rows, x.w, q, at) {
			t.Errorf("QuotientHolds(%v, %v, %v, %d) is true", x.rows, x.w, q, at)
		}
	}
}

// P114
func TestQuotientTargetIsZeroJustAtOneToN(t *testing.T) {
	want := []int{1}
	for n := 1; n <= 16; n++ {
		target := quotientTarget(t, n)
		for _, x := range allNumbers() {
			if got := polyAt(t, target, x); (got == 0) != (1 <= x && x <= n) {
				t.Errorf("QuotientTarget(%d) is %v, which is %d at %d", n, target, got, x)
			}
		}
		want = productOf(want, []int{113 - n, 1})
		if !slices.Equal(target, want) {
			t.Errorf("QuotientTarget(%d) is %v, not %v", n, target, want)
		}
	}
}

// P114: of as many constraints as there may not be.
func TestQuotientTargetIsToldJustOfOneToSixteen(t *testing.T) {
	for _, n := range append(notNumbers(), 0, 17, 18, 19, 20, 21, 22, 112) {
		target, ok := impl.QuotientTarget(n)
		wantNoList(t, fmt.Sprintf("QuotientTarget(%d)", n), target, ok)
	}
}

// P115: as the equation holds at all numbers, of which there are more than it has coefficients, it is that of polynomials.
func TestQuotientOfIsToldJustIfRowsHold(t *testing.T) {
	draw := draws(115)
	table := tableOfValues()
	held, unheld := 0, 0
	for _, x := range slices.Concat(someConstrained(draw), circuitsConstrained(draw), wrongAtOneGate(draw)) {
		n := x.firstReckoned()
		if n < len(x.rows) {
			q, ok := impl.QuotientOf(x.rows, x.w)
			wantNoList(t, "QuotientOf", q, ok)
			unheld++
			continue
		}
		held++
		q := quotientOf(t, x)
		if len(q) > max(n-1, 0) {
			t.Errorf("QuotientOf(%v, %v) is %v, of %d constraints", x.rows, x.w, q, n)
		}
		if got := table.quotiented(x).passes(q); got != 113 || impl.QuotientPasses(x.rows, x.w, q) != 113 {
			t.Errorf("QuotientOf(%v, %v) is %v, for which the equation holds at %d numbers, and QuotientPasses is %d", x.rows, x.w, q, got, impl.QuotientPasses(x.rows, x.w, q))
		}
		for at := draw(5); at < 113; at += 1 + draw(9) {
			if !impl.QuotientHolds(x.rows, x.w, q, at) {
				t.Errorf("QuotientHolds(%v, %v, %v, %d) is false", x.rows, x.w, q, at)
			}
		}
	}
	if held < 500 || unheld < 500 {
		t.Errorf("%d of the constraints hold, and %d do not", held, unheld)
	}
}

// P114 and P115, with answers reckoned by hand.
func TestQuotientsReckonedByHand(t *testing.T) {
	for n, want := range map[int][]int{1: {112, 1}, 2: {2, 110, 1}, 3: {107, 11, 107, 1}, 4: {24, 63, 35, 103, 1}} {
		if got := quotientTarget(t, n); !slices.Equal(got, want) {
			t.Errorf("QuotientTarget(%d) is %v, not %v", n, got, want)
		}
	}
	square := circuit(1, []int{1}, gateInput(0), gateMul(0, 0))
	fourth := circuit(1, []int{2}, gateInput(0), gateMul(0, 0), gateMul(1, 1))
	for _, c := range []struct {
		x    constrained
		want []int
	}{
		{constrained{rowsReckoned(circuit(1, []int{0}, gateInput(0))), []int{1, 5, 5}}, []int{}},
		{constrained{rowsReckoned(square), []int{1, 3, 3, 9}}, []int{}},                                                                  // a is 2x-1, b is 3, and c is 6x-3
		{constrained{rowsReckoned(fourth), []int{1, 2, 2, 4, 16}}, []int{1, 57}},                                                         // a is x*x/2 - x/2 + 1, b is x*x - 3x + 4, and c is 5x*x - 13x + 10: 1 + x/2
		{constrained{rowsReckoned(fourth), []int{1, 1, 1, 1, 1}}, []int{}},                                                               // all three are 1
		{constrained{rowsReckoned(fourth), []int{1, 0, 0, 0, 0}}, []int{}},                                                               // b and c are 0
		{constrained{[]impl.Row{{A: []int{2}, B: []int{3}, C: []int{6}}, {A: []int{3}, B: []int{4}, C: []int{12}}}, []int{1}}, []int{1}}, // (x+1)*(x+2) - 6x is x*x - 3x + 2
	} {
		if got := quotientOf(t, c.x); !slices.Equal(got, c.want) {
			t.Errorf("QuotientOf(%v, %v) is %v, not %v", c.x.rows, c.x.w, got, c.want)
		}
		if got := impl.QuotientPasses(c.x.rows, c.x.w, c.want); got != 113 {
			t.Errorf("QuotientPasses(%v, %v, %v) is %d", c.x.rows, c.x.w, c.want, got)
		}
	}
	rows := rowsReckoned(square)
	for _, c := range []struct {
		w, q []int
		want []int
	}{
		{[]int{1, 3, 3, 8}, nil, []int{1}},         // a is 2x-1, b is 3, and c is 5x-2: x-1
		{[]int{1, 3, 4, 16}, nil, []int{2, 76}},    // a is 3x-2, b is x+2, and c is 12x-8: 3x*x - 8x + 4, which is (3x-2)*(x-2); 3 times 76 is 228
		{[]int{1, 3, 3, 9}, []int{5}, []int{1, 2}}, // just the target
		{[]int{1, 3, 3, 9}, []int{0, 5}, []int{0, 1, 2}},
		{[]int{1, 3, 3, 9}, []int{5, 112}, []int{1, 2, 5}},
	} {
		for _, at := range allNumbers() {
			if got := impl.QuotientHolds(rows, c.w, c.q, at); got != slices.Contains(c.want, at) {
				t.Errorf("QuotientHolds(%v, %v, %v, %d) is %v", rows, c.w, c.q, at, got)
			}
		}
		if got := impl.QuotientPasses(rows, c.w, c.q); got != len(c.want) {
			t.Errorf("QuotientPasses(%v, %v, %v) is %d, not %d", rows, c.w, c.q, got, len(c.want))
		}
	}
}

// P116: for whatever is told as a quotient.
func TestQuotientHoldsAtKJustIfTheConstraintHolds(t *testing.T) {
	draw := draws(116)
	table := tableOfValues()
	held, unheld := 0, 0
	for _, x := range fewConstrained(draw, 5) {
		r := table.quotiented(x)
		for _, q := range someQuotients(draw, r.fitting(t, draw, len(x.rows)-1)) {
			for k := range x.rows {
				want := impl.RowsHold(x.rows[k:k+1], x.w)
				held, unheld = held+oneIf(want), unheld+oneIf(!want)
				if got := impl.QuotientHolds(x.rows, x.w, q, k+1); got != want {
					t.Errorf("QuotientHolds(%v, %v, %v, %d) is %v", x.rows, x.w, q, k+1, got)
				}
			}
		}
	}
	if held < 5000 || unheld < 5000 {
		t.Errorf("%d constraints hold, and %d do not", held, unheld)
	}
}

// mostPasses reckons at how many numbers the equation holds at most for a quotient, if not all constraints hold.
func mostPasses(x constrained, q []int) int {
	return max(2*len(x.rows)-2, len(x.rows)+len(q)-1)
}

// P117: whatever is told as a quotient, and ones that fit at as many numbers as they have coefficients.
func TestQuotientPassesIsFewIfRowsDoNotHold(t *testing.T) {
	draw := draws(117)
	table := tableOfValues()
	all := 0
	for _, x := range slices.Concat(wrongAtOneGate(draw), fewConstrained(draw, 20)) {
		r := table.quotiented(x)
		list := someQuotients(draw, r.fitting(t, draw, len(x.rows)-1))
		for _, many := range []int{1, 2, 10, 19, 20} {
			list = append(list, r.fitting(t, draw, many))
		}
		for _, q := range list {
			got := impl.QuotientPasses(x.rows, x.w, q)
			if want := r.passes(q); got != want {
				t.Errorf("QuotientPasses(%v, %v, %v) is %d, not %d", x.rows, x.w, q, got, want)
			}
			if impl.RowsHold(x.rows, x.w) {
				continue
			}
			most := mostPasses(x, q)
			if got > most {
				t.Errorf("QuotientPasses(%v, %v, %v) is %d, more than %d", x.rows, x.w, q, got, most)
			}
			all += oneIf(got == most)
		}
	}
	if all < 100 {
		t.Errorf("QuotientPasses is as many as it may be just %d times", all)
	}
}

// P115 to P117: at each number, with quotients that are right, and ones that are not.
func TestQuotientHoldsAtEachNumber(t *testing.T) {
	draw := draws(1170)
	table := tableOfValues()
	for _, x := range fewConstrained(draw, 400) {
		r := table.quotiented(x)
		for _, q := range append(someQuotients(draw, r.fitting(t, draw, len(x.rows)-1)), r.fitting(t, draw, 20)) {
			wantPasses(t, r, q)
		}
	}
}

// P115: if one coefficient of the right quotient is wrong, the equation holds just at 1 to the number of constraints, and at 0 if it is not the constant one.
func TestQuotientPassesOfAWrongCoefficient(t *testing.T) {
	draw := draws(1150)
	for size := 1; size <= 23; size += 11 {
		for n := 1; n <= 16; n++ {
			x := heldRows(draw, n, drawnWitness(draw, size))
			right := quotientOf(t, x)
			for i := range 20 {
				wrong := append(slices.Clone(right), make([]int, 20-len(right))...)
				wrong[i] = (wrong[i] + 1 + draw(112)) % 113
				wrong = withoutZeros(wrong)
				if got, want := impl.QuotientPasses(x.rows, x.w, wrong), n+min(i, 1); got != want {
					t.Errorf("QuotientPasses(%v, %v, %v) is %d, not %d; the right one is %v", x.rows, x.w, wrong, got, want, right)
				}
			}
		}
	}
}

// P115: of constraints and witnesses that are not as RowsHold demands.
func TestQuotientsAreToldJustOfConstraints(t *testing.T) {
	draw := draws(1151)
	for _, q := range [][]int{nil, {1}, drawnPolynomial(draw, 20)} {
		wantNoQuotient(t, constrained{}, q)
		for _, x := range longConstrained(draw) {
			wantNoQuotient(t, x, q)
		}
		for _, size := range []int{1, 2, 23} {
			for _, n := range []int{1, 2, 16} {
				for _, broken := range brokenConstrained(heldRows(draw, n, drawnWitness(draw, size))) {
					wantNoQuotient(t, broken, q)
				}
			}
		}
	}
}

// P115 to P117: of what is no polynomial, and at what is no number.
func TestTheEquationIsTriedJustForPolynomials(t *testing.T) {
	draw := draws(1171)
	one := constrained{[]impl.Row{{A: []int{0}, B: []int{0}, C: []int{0}}}, []int{1}}
	for _, x := range []constrained{one, heldRows(draw, 16, drawnWitness(draw, 23)), fewConstrained(draw, 60)[3]} {
		for _, bad := range notPolynomials() {
			wantNotTried(t, x, bad)
		}
		q, _ := impl.QuotientOf(x.rows, x.w)
		wantNotTried(t, x, append(slices.Clone(q), 0))
		wantNotTried(t, x, append(slices.Clone(q), 113))
		for i := range q {
			for _, more := range []int{113, -113} {
				bad := slices.Clone(q)
				bad[i] += more
				wantNotTried(t, x, bad)
			}
		}
		for _, bad := range notNumbers() {
			if impl.QuotientHolds(x.rows, x.w, q, bad) || impl.QuotientHolds(x.rows, x.w, nil, bad) {
				t.Errorf("QuotientHolds(%v, %v, %v, %d) is true", x.rows, x.w, q, bad)
			}
		}
	}
}

// P114 to P117: the general rules on memory, also if several arguments are in the same memory.
func TestQuotientsOwnTheirMemory(t *testing.T) {
	draw := draws(1172)
	for n := range 18 {
		wantOwnMemory(t, "QuotientTarget", nil, func() [][]int {
			first, _ := impl.QuotientTarget(n)
			second, _ := impl.QuotientTarget(n)
			return [][]int{first, second}
		})
	}
	x := heldRows(draw, 5, drawnWitness(draw, 9))
	for _, one := range slices.Concat(fewConstrained(draw, 7), longConstrained(draw), brokenConstrained(x)) {
		rows, w := rowsWithSpare(one.rows), withSpare(one.w)
		for _, q := range [][]int{withSpare(drawnPolynomial(draw, draw(21))), withSpare([]int{1, 0}), w[:len(w)/2], w} {
			call := func() [][]int {
				first, _ := impl.QuotientOf(rows, w)
				second, _ := impl.QuotientOf(rows, w)
				return [][]int{first, second, {oneIf(impl.QuotientHolds(rows, w, q, 5)), impl.QuotientPasses(rows, w, q)}}
			}
			wantRowsKept(t, "QuotientOf, QuotientHolds and QuotientPasses", rows, [][]int{w, q}, call)
		}
	}
}

// P114 to P117: what was told before does not count, nor what is told at the same time.
func TestQuotientsKeepNoState(t *testing.T) {
	table := tableOfValues()
	atTheSameTime(1173, func(draw func(int) int) {
		list := fewConstrained(draw, 40)
		for range 2 {
			for i, x := range list {
				r, q := table.quotiented(x), drawnPolynomial(draws(uint32(i)), i%21)
				impl.QuotientTarget(17)
				impl.QuotientOf(nil, nil)
				impl.QuotientPasses(x.rows, []int{2}, q)
				target, _ := impl.QuotientTarget(len(x.rows))
				if len(target) != len(x.rows)+1 || impl.QuotientPasses(x.rows, x.w, q) != r.passes(q) {
					t.Errorf("for %v and %v the target is %v, and QuotientPasses of %v is %d", x.rows, x.w, target, q, impl.QuotientPasses(x.rows, x.w, q))
				}
				if right, ok := impl.QuotientOf(x.rows, x.w); ok != impl.RowsHold(x.rows, x.w) || ok && r.passes(right) != 113 {
					t.Errorf("QuotientOf(%v, %v) is %v, %v", x.rows, x.w, right, ok)
				}
			}
			slices.Reverse(list)
		}
	})
}
