package tests

import (
	"fmt"
	"slices"
	"testing"

	"loop.example/underveil/impl"
)

// constrained is some constraints and a witness.
type constrained struct {
	rows []impl.Row
	w    []int
}

// listsOf returns all lists of constraints, those of the first one first.
func listsOf(rows []impl.Row) [][]int {
	var lists [][]int
	for _, r := range rows {
		lists = append(lists, r.A, r.B, r.C)
	}
	return lists
}

func sameRows(a, b []impl.Row) bool {
	return len(a) == len(b) && sameLists(listsOf(a), listsOf(b))
}

// clonedRows returns a copy of constraints and all their lists.
func clonedRows(rows []impl.Row) []impl.Row {
	list := slices.Clone(rows)
	for i, r := range rows {
		list[i] = impl.Row{A: slices.Clone(r.A), B: slices.Clone(r.B), C: slices.Clone(r.C)}
	}
	return list
}

// clone returns a copy that shares no memory.
func (x constrained) clone() constrained {
	return constrained{clonedRows(x.rows), slices.Clone(x.w)}
}

// rowsReckoned reckons the constraints of a valid circuit.
func rowsReckoned(c impl.Circuit) []impl.Row {
	ahead, size := 1+c.Inputs, 1+c.Inputs+len(c.Gates)
	var rows []impl.Row
	for i, g := range c.Gates {
		r := impl.Row{A: make([]int, size), B: make([]int, size), C: make([]int, size)}
		r.C[ahead+i] = 1
		if g.Kind != 4 {
			r.A[0] = 1
		}
		switch g.Kind {
		case 0:
			r.B[1+g.A] = 1
		case 1:
			r.B[0] = g.A
		case 2:
			r.B[ahead+g.A]++
			r.B[ahead+g.B]++
		case 3:
			r.B[ahead+g.B] = 112
			r.B[ahead+g.A] = 1 - oneIf(g.A == g.B)
		case 4:
			r.A[ahead+g.A], r.B[ahead+g.B] = 1, 1
		}
		rows = append(rows, r)
	}
	return rows
}

// witnessReckoned reckons the witness of a valid circuit on inputs.
func witnessReckoned(c impl.Circuit, ins []int) []int {
	return slices.Concat([]int{1}, ins, valuesReckoned(c, ins))
}

// timesWitness reckons what a list of a constraint comes to.
func timesWitness(list, w []int) int {
	sum := 0
	for i, a := range list {
		sum += a * w[i]
	}
	return sum % 113
}

// firstReckoned reckons the index of the first constraint that does not hold, or how many there are, or -1.
func (x constrained) firstReckoned() int {
	if len(x.rows) < 1 || len(x.rows) > 16 || len(x.w) < 1 || len(x.w) > 23 || x.w[0] != 1 {
		return -1
	}
	for _, list := range append(listsOf(x.rows), x.w) {
		if len(list) != len(x.w) || !isNumber(slices.Min(list)) || !isNumber(slices.Max(list)) {
			return -1
		}
	}
	for i, r := range x.rows {
		if timesWitness(r.A, x.w)*timesWitness(r.B, x.w)%113 != timesWitness(r.C, x.w) {
			return i
		}
	}
	return len(x.rows)
}

// heldRow returns a constraint of drawn numbers that holds of a witness.
func heldRow(draw func(int) int, w []int) impl.Row {
	r := impl.Row{A: drawnList(draw, len(w)), B: drawnList(draw, len(w)), C: drawnList(draw, len(w))}
	r.C[0] = 0
	r.C[0] = (timesWitness(r.A, w)*timesWitness(r.B, w) + 113 - timesWitness(r.C, w)) % 113
	return r
}

// unheldRow returns a constraint of drawn numbers that does not hold of a witness.
func unheldRow(draw func(int) int, w []int) impl.Row {
	r := heldRow(draw, w)
	r.C[0] = (r.C[0] + 1 + draw(112)) % 113
	return r
}

// drawnWitness returns a witness of drawn numbers.
func drawnWitness(draw func(int) int, n int) []int {
	return append([]int{1}, drawnList(draw, n-1)...)
}

// heldRows returns so many constraints of drawn numbers that hold of a witness.
func heldRows(draw func(int) int, n int, w []int) constrained {
	x := constrained{w: w}
	for range n {
		x.rows = append(x.rows, heldRow(draw, w))
	}
	return x
}

// someConstrained returns constraints and witnesses of all lengths: ones that all hold, ones of which one, at the first, a middle or the last place, does not hold, ones of which none holds, and zeros and the greatest numbers.
func someConstrained(draw func(int) int) []constrained {
	var list []constrained
	for size := 1; size <= 23; size++ {
		zeros, greatest := make([]int, size), slices.Repeat([]int{112}, size)
		list = append(list, constrained{slices.Repeat([]impl.Row{{A: zeros, B: zeros, C: zeros}}, 1+draw(16)), drawnWitness(draw, size)},
			constrained{slices.Repeat([]impl.Row{{A: greatest, B: greatest, C: greatest}}, 1+draw(16)), append([]int{1}, greatest[1:]...)})
		for n := 1; n <= 16; n++ {
			x := heldRows(draw, n, drawnWitness(draw, size))
			list = append(list, x)
			for _, at := range []int{0, n / 2, n - 1, draw(n)} {
				one := x.clone()
				one.rows[at] = unheldRow(draw, x.w)
				some := one.clone()
				for later := at; later < n; later += 1 + draw(3) {
					some.rows[later] = unheldRow(draw, x.w)
				}
				list = append(list, one, some)
			}
		}
	}
	return list
}

// circuitsConstrained returns the constraints and witnesses of some circuits, and witnesses that are changed in some numbers.
func circuitsConstrained(draw func(int) int) []constrained {
	var list []constrained
	for _, c := range someCircuits(draw) {
		for _, ins := range someIns(draw, c.Inputs) {
			x := constrained{rowsReckoned(c), witnessReckoned(c, ins)}
			other := x.clone()
			for i := 1; i < len(x.w); i += 1 + draw(9) {
				other.w[i] = draw(113)
			}
			list = append(list, x, other)
		}
	}
	return list
}

// brokenNumbers returns what are no lists of as many numbers as a list: shorter, longer or with what is no number.
func brokenNumbers(list []int) [][]int {
	broken := [][]int{nil, list[1:], list[:len(list)-1], append(slices.Clone(list), 0), slices.Concat(list, list), slices.Concat(list, make([]int, 30))}
	for i := range list {
		for _, bad := range append(extremes(), list[i]+113, list[i]-113) {
			one := slices.Clone(list)
			one[i] = bad
			broken = append(broken, one)
		}
	}
	return broken
}

// brokenConstrained returns what is not as demanded: no constraints or too many, a list that does not fit, or a witness that is none. All have just one fault.
func brokenConstrained(x constrained) []constrained {
	one := x.rows[0]
	list := []constrained{{nil, x.w}, {[]impl.Row{}, x.w}, {slices.Repeat([]impl.Row{one}, 17), x.w}, {slices.Repeat([]impl.Row{one}, 18), x.w}, {slices.Repeat([]impl.Row{one}, 1000), x.w}, {x.rows, nil}, {x.rows, []int{}}}
	for i := range x.rows {
		if i > 0 && i < len(x.rows)/2 {
			continue // the first, a middle and the last ones are enough
		}
		put := func(change func(r *impl.Row)) {
			broken := clonedRows(x.rows)
			change(&broken[i])
			list = append(list, constrained{broken, x.w})
		}
		put(func(r *impl.Row) { *r = impl.Row{} })
		for _, bad := range brokenNumbers(x.rows[i].A) {
			put(func(r *impl.Row) { r.A = bad })
		}
		for _, bad := range brokenNumbers(x.rows[i].B) {
			put(func(r *impl.Row) { r.B = bad })
		}
		for _, bad := range brokenNumbers(x.rows[i].C) {
			put(func(r *impl.Row) { r.C = bad })
		}
	}
	for _, bad := range brokenNumbers(x.w) {
		list = append(list, constrained{x.rows, bad})
	}
	for _, first := range []int{0, 2, 111, 112} {
		list = append(list, constrained{x.rows, append([]int{first}, x.w[1:]...)})
	}
	return list
}

// longConstrained returns constraints that would hold of a witness that is too long, or is empty.
func longConstrained(draw func(int) int) []constrained {
	list := []constrained{{[]impl.Row{{}}, nil}, {[]impl.Row{{}, {}}, []int{}}, {[]impl.Row{{A: []int{}, B: []int{}, C: []int{}}}, []int{}}}
	for _, size := range []int{24, 25, 46, 1000} {
		list = append(list, heldRows(draw, 1, drawnWitness(draw, size)), heldRows(draw, 16, drawnWitness(draw, size)))
	}
	return list
}

func rowsOf(t *testing.T, c impl.Circuit) []impl.Row {
	t.Helper()
	rows, ok := impl.RowsOf(c)
	if !ok || len(rows) != len(c.Gates) {
		t.Fatalf("RowsOf(%v) is %v, %v", c, rows, ok)
	}
	return rows
}

func rowsWitness(t *testing.T, c impl.Circuit, ins []int) []int {
	t.Helper()
	w, ok := impl.RowsWitness(c, ins)
	return wantList(t, fmt.Sprintf("RowsWitness(%v, %v)", c, ins), w, ok, 1+c.Inputs+len(c.Gates))
}

// wantFirst fails the test unless RowsFirst is so many, and RowsHold fits it.
func wantFirst(t *testing.T, x constrained, want int) {
	t.Helper()
	first, holds := impl.RowsFirst(x.rows, x.w), impl.RowsHold(x.rows, x.w)
	if first != want || holds != (first == len(x.rows)) {
		t.Errorf("of %v and %v RowsFirst is %d, not %d, and RowsHold is %v", x.rows, x.w, first, want, holds)
	}
}

// P109
func TestRowsOfHasAConstraintForEachGate(t *testing.T) {
	for _, c := range someCircuits(draws(109)) {
		rows := rowsOf(t, c)
		for _, list := range listsOf(rows) {
			if len(list) != 1+c.Inputs+len(c.Gates) {
				t.Errorf("RowsOf(%v) has the list %v", c, list)
			}
		}
		if want := rowsReckoned(c); !sameRows(rows, want) {
			t.Errorf("RowsOf(%v) is %v, not %v", c, rows, want)
		}
	}
}

// P109, with answers reckoned by hand: each kind of gate, constants, and gates that are added to, subtracted from and multiplied by themselves.
func TestRowsOfReckonedByHand(t *testing.T) {
	kinds := circuit(2, []int{6}, gateInput(1), gateInput(0), gateConst(112), gateAdd(0, 2), gateSub(2, 1), gateSub(1, 2), gateMul(1, 0))
	itself := circuit(1, []int{0}, gateInput(0), gateAdd(0, 0), gateSub(1, 1), gateMul(1, 1), gateConst(0))
	for _, c := range []struct {
		c    impl.Circuit
		want []impl.Row
	}{
		{circuit(1, []int{0}, gateInput(0)), []impl.Row{{A: []int{1, 0, 0}, B: []int{0, 1, 0}, C: []int{0, 0, 1}}}},
		{circuit(1, []int{0}, gateConst(7)), []impl.Row{{A: []int{1, 0, 0}, B: []int{7, 0, 0}, C: []int{0, 0, 1}}}},
		{circuit(3, []int{0}, gateInput(2)), []impl.Row{{A: []int{1, 0, 0, 0, 0}, B: []int{0, 0, 0, 1, 0}, C: []int{0, 0, 0, 0, 1}}}},
		{kinds, []impl.Row{
			{A: []int{1, 0, 0, 0, 0, 0, 0, 0, 0, 0}, B: []int{0, 0, 1, 0, 0, 0, 0, 0, 0, 0}, C: []int{0, 0, 0, 1, 0, 0, 0, 0, 0, 0}},
			{A: []int{1, 0, 0, 0, 0, 0, 0, 0, 0, 0}, B: []int{0, 1, 0, 0, 0, 0, 0, 0, 0, 0}, C: []int{0, 0, 0, 0, 1, 0, 0, 0, 0, 0}},
			{A: []int{1, 0, 0, 0, 0, 0, 0, 0, 0, 0}, B: []int{112, 0, 0, 0, 0, 0, 0, 0, 0, 0}, C: []int{0, 0, 0, 0, 0, 1, 0, 0, 0, 0}},
			{A: []int{1, 0, 0, 0, 0, 0, 0, 0, 0, 0}, B: []int{0, 0, 0, 1, 0, 1, 0, 0, 0, 0}, C: []int{0, 0, 0, 0, 0, 0, 1, 0, 0, 0}},
			{A: []int{1, 0, 0, 0, 0, 0, 0, 0, 0, 0}, B: []int{0, 0, 0, 0, 112, 1, 0, 0, 0, 0}, C: []int{0, 0, 0, 0, 0, 0, 0, 1, 0, 0}},
			{A: []int{1, 0, 0, 0, 0, 0, 0, 0, 0, 0}, B: []int{0, 0, 0, 0, 1, 112, 0, 0, 0, 0}, C: []int{0, 0, 0, 0, 0, 0, 0, 0, 1, 0}},
			{A: []int{0, 0, 0, 0, 1, 0, 0, 0, 0, 0}, B: []int{0, 0, 0, 1, 0, 0, 0, 0, 0, 0}, C: []int{0, 0, 0, 0, 0, 0, 0, 0, 0, 1}},
		}},
		{itself, []impl.Row{
			{A: []int{1, 0, 0, 0, 0, 0, 0}, B: []int{0, 1, 0, 0, 0, 0, 0}, C: []int{0, 0, 1, 0, 0, 0, 0}},
			{A: []int{1, 0, 0, 0, 0, 0, 0}, B: []int{0, 0, 2, 0, 0, 0, 0}, C: []int{0, 0, 0, 1, 0, 0, 0}},
			{A: []int{1, 0, 0, 0, 0, 0, 0}, B: []int{0, 0, 0, 0, 0, 0, 0}, C: []int{0, 0, 0, 0, 1, 0, 0}},
			{A: []int{0, 0, 0, 1, 0, 0, 0}, B: []int{0, 0, 0, 1, 0, 0, 0}, C: []int{0, 0, 0, 0, 0, 1, 0}},
			{A: []int{1, 0, 0, 0, 0, 0, 0}, B: []int{0, 0, 0, 0, 0, 0, 0}, C: []int{0, 0, 0, 0, 0, 0, 1}},
		}},
	} {
		if got := rowsOf(t, c.c); !sameRows(got, c.want) {
			t.Errorf("RowsOf(%v) is %v, not %v", c.c, got, c.want)
		}
	}
	for _, c := range []struct {
		c         impl.Circuit
		ins, want []int
	}{
		{kinds, []int{3, 5}, []int{1, 3, 5, 5, 3, 112, 4, 109, 4, 15}},
		{kinds, []int{112, 0}, []int{1, 112, 0, 0, 112, 112, 112, 0, 0, 0}},
		{itself, []int{100}, []int{1, 100, 100, 87, 0, 111, 0}}, // 87 is -26, the square of which is 676
		{circuit(6, []int{0}, gateInput(4)), []int{1, 2, 3, 4, 5, 6}, []int{1, 1, 2, 3, 4, 5, 6, 5}},
	} {
		if got := rowsWitness(t, c.c, c.ins); !slices.Equal(got, c.want) {
			t.Errorf("RowsWitness(%v, %v) is %v, not %v", c.c, c.ins, got, c.want)
		}
	}
}

// P109 and P110: of circuits that are not valid, and of inputs that do not fit.
func TestRowsAreToldJustOfCircuits(t *testing.T) {
	draw := draws(1090)
	wantNoWitness := func(c impl.Circuit, ins []int) {
		t.Helper()
		if w, ok := impl.RowsWitness(c, ins); ok || len(w) != 0 {
			t.Errorf("RowsWitness(%v, %v) is %v, %v", c, ins, w, ok)
		}
	}
	for _, c := range notCircuits() {
		if rows, ok := impl.RowsOf(c); ok || len(rows) != 0 {
			t.Errorf("RowsOf(%v) is %v, %v", c, rows, ok)
		}
		for n := range 8 {
			wantNoWitness(c, make([]int, n))
		}
	}
	for _, c := range someCircuits(draw) {
		for _, bad := range append(notLists(c.Inputs), make([]int, c.Inputs-1), make([]int, c.Inputs+1), make([]int, 1+c.Inputs+len(c.Gates))) {
			wantNoWitness(c, bad)
		}
		for i := range c.Inputs {
			for _, bad := range notNumbers() {
				ins := drawnList(draw, c.Inputs)
				ins[i] = bad
				wantNoWitness(c, ins)
			}
		}
	}
}

// P110
func TestRowsHoldHoldsOfRowsOfAndRowsWitness(t *testing.T) {
	draw := draws(110)
	for _, c := range someCircuits(draw) {
		rows := rowsOf(t, c)
		for _, ins := range someIns(draw, c.Inputs) {
			w := rowsWitness(t, c, ins)
			if want := witnessReckoned(c, ins); !slices.Equal(w, want) {
				t.Errorf("RowsWitness(%v, %v) is %v, not %v", c, ins, w, want)
			}
			wantFirst(t, constrained{rows, w}, len(c.Gates))
		}
	}
}

// P110: also of the shortest and the longest circuits, whose witnesses have 3 and 23 numbers.
func TestRowsHoldHoldsOfTheShortestAndTheLongestCircuit(t *testing.T) {
	draw := draws(1100)
	for _, c := range []impl.Circuit{circuit(1, []int{0}, gateInput(0)), circuit(1, []int{0}, gateConst(0)), drawnCircuit(draw, 6, 16, 16), circuit(6, []int{15}, slices.Repeat([]impl.Gate{gateInput(5)}, 16)...), squaresCircuit(15)} {
		rows := rowsOf(t, c)
		for _, a := range allNumbers() {
			ins := slices.Repeat([]int{a}, c.Inputs)
			wantFirst(t, constrained{rows, rowsWitness(t, c, ins)}, len(c.Gates))
		}
	}
}

// P111: all constraints hold, or one at the first, a middle or the last place does not, or more do not.
func TestRowsHoldJustIfRowsFirstIsTheNumberOfConstraints(t *testing.T) {
	draw := draws(111)
	seen := map[int]int{}
	for _, x := range append(someConstrained(draw), circuitsConstrained(draw)...) {
		first := x.firstReckoned()
		wantFirst(t, x, first)
		seen[first]++
	}
	for first := range 17 {
		if seen[first] < 20 {
			t.Errorf("RowsFirst is %d just %d times", first, seen[first])
		}
	}
}

// P111: what is not as demanded, also if a constraint ahead of it does not hold.
func TestRowsFirstIsToldJustOfConstraints(t *testing.T) {
	draw := draws(1110)
	for _, x := range longConstrained(draw) {
		wantFirst(t, x, -1)
	}
	for _, size := range []int{1, 2, 9, 23} {
		for _, n := range []int{1, 2, 16} {
			x := heldRows(draw, n, drawnWitness(draw, size))
			wantFirst(t, x, n)
			for _, broken := range brokenConstrained(x) {
				wantFirst(t, broken, -1)
			}
			x.rows[0] = unheldRow(draw, x.w)
			wantFirst(t, x, 0)
			for _, broken := range brokenConstrained(x) {
				wantFirst(t, broken, -1)
			}
		}
	}
	for _, bad := range notNumbers() {
		wantFirst(t, constrained{[]impl.Row{{A: []int{bad}, B: []int{0}, C: []int{0}}}, []int{1}}, -1)
		wantFirst(t, constrained{[]impl.Row{{A: []int{0}, B: []int{bad}, C: []int{0}}}, []int{1}}, -1)
		wantFirst(t, constrained{[]impl.Row{{A: []int{0}, B: []int{0}, C: []int{bad}}}, []int{1}}, -1)
		wantFirst(t, constrained{[]impl.Row{{A: []int{0}, B: []int{0}, C: []int{0}}}, []int{bad}}, -1)
		wantFirst(t, constrained{[]impl.Row{{A: []int{0, 0}, B: []int{0, 0}, C: []int{0, 0}}}, []int{1, bad}}, -1)
	}
}

// P111: the witness is the number 1 alone, so that each constraint is of three numbers: all of them for some.
func TestRowsHoldOfTheWitnessOne(t *testing.T) {
	for _, a := range []int{0, 1, 2, 57, 112} {
		for _, b := range allNumbers() {
			for _, c := range allNumbers() {
				x := constrained{[]impl.Row{{A: []int{a}, B: []int{b}, C: []int{c}}}, []int{1}}
				wantFirst(t, x, oneIf(a*b%113 == c))
			}
		}
	}
}

// P112
func TestRowsHoldAheadOfRowsFirst(t *testing.T) {
	draw := draws(112)
	for _, x := range append(someConstrained(draw), circuitsConstrained(draw)...) {
		first := impl.RowsFirst(x.rows, x.w)
		if first < 0 || first > len(x.rows) {
			t.Fatalf("RowsFirst(%v, %v) is %d", x.rows, x.w, first)
		}
		if impl.RowsHold(x.rows[:first], x.w) != (first > 0) { // of no constraints it does not hold
			t.Errorf("RowsHold of the first %d of %v and %v is not so", first, x.rows, x.w)
		}
		if first < len(x.rows) && (impl.RowsHold(x.rows[:first+1], x.w) || impl.RowsHold(x.rows[first:first+1], x.w)) {
			t.Errorf("RowsHold of %v and %v holds with constraint %d", x.rows, x.w, first)
		}
		for i := range x.rows[:first] {
			if !impl.RowsHold(x.rows[i:first], x.w) {
				t.Errorf("RowsHold of the constraints %d to %d of %v and %v is false", i, first-1, x.rows, x.w)
			}
		}
	}
}

// wantOneWitness fails the test unless RowsHold holds of a witness just if it is that of its inputs; it returns whether it holds.
func wantOneWitness(t *testing.T, c impl.Circuit, rows []impl.Row, w []int) bool {
	t.Helper()
	got, want := impl.RowsHold(rows, w), slices.Equal(w, rowsWitness(t, c, w[1:1+c.Inputs]))
	if got != want {
		t.Errorf("RowsHold of the constraints of %v and %v is %v", c, w, got)
	}
	return got
}

// P113: each number of the witness is changed.
func TestAWitnessForWhichRowsHoldIsThatOfItsInputs(t *testing.T) {
	draw := draws(113)
	held, unheld := 0, 0
	for _, c := range someCircuits(draw) {
		rows := rowsOf(t, c)
		for _, ins := range someIns(draw, c.Inputs) {
			w := rowsWitness(t, c, ins)
			for i := 1; i < len(w); i++ {
				for range 4 {
					other := slices.Clone(w)
					other[i] = (w[i] + 1 + draw(112)) % 113
					if i > c.Inputs && impl.RowsHold(rows, other) {
						t.Errorf("RowsHold of the constraints of %v and %v is true, and of %v", c, other, w)
					}
					if wantOneWitness(t, c, rows, other) {
						held++
					} else {
						unheld++
					}
				}
			}
		}
	}
	if held < 100 || unheld < 10000 {
		t.Errorf("of %d witnesses it holds, and of %d not", held, unheld)
	}
}

// P113: all witnesses of circuits with one gate, and all of a circuit with a gate and itself, for some inputs.
func TestAWitnessAmongAll(t *testing.T) {
	draw := draws(1130)
	for _, c := range []impl.Circuit{circuit(1, []int{0}, gateInput(0)), circuit(1, []int{0}, gateConst(0)), circuit(1, []int{0}, gateConst(112))} {
		rows := rowsOf(t, c)
		for _, a := range allNumbers() {
			for _, b := range allNumbers() {
				wantOneWitness(t, c, rows, []int{1, a, b})
			}
		}
	}
	for _, itself := range []impl.Gate{gateAdd(0, 0), gateSub(0, 0), gateMul(0, 0)} {
		c := circuit(1, []int{1}, gateInput(0), itself)
		rows := rowsOf(t, c)
		for _, in := range edgeNumbers(draw) {
			held := 0
			for _, a := range allNumbers() {
				for _, b := range allNumbers() {
					held += oneIf(wantOneWitness(t, c, rows, []int{1, in, a, b}))
				}
			}
			if held != 1 {
				t.Errorf("RowsHold holds of %d witnesses of %v on %d", held, c, in)
			}
		}
	}
}

// rowsWithSpare returns a copy of constraints of which all lists, and the list of them, have room for more behind them.
func rowsWithSpare(rows []impl.Row) []impl.Row {
	room := make([]impl.Row, len(rows), len(rows)+9)
	for i, r := range rows {
		room[i] = impl.Row{A: withSpare(r.A), B: withSpare(r.B), C: withSpare(r.C)}
	}
	return room
}

// wantRowsKept fails the test if a call changes constraints or lists, or tells what shares memory with them.
func wantRowsKept(t *testing.T, name string, rows []impl.Row, lists [][]int, call func() [][]int) {
	t.Helper()
	before := slices.Clone(rows)
	wantOwnMemory(t, name, append(listsOf(rows), lists...), call)
	for i, list := range listsOf(before) {
		same := listsOf(rows)[i]
		if len(same) != len(list) || len(list) > 0 && &same[0] != &list[0] {
			t.Errorf("%s changes the list %d of %v", name, i, rows)
		}
	}
	if slices.ContainsFunc(rows[:cap(rows)][len(rows):], func(r impl.Row) bool { return r.A != nil || r.B != nil || r.C != nil }) {
		t.Errorf("%s writes behind %v", name, rows)
	}
}

// P109 and P110: no list of a constraint shares memory with another one, of the same circuit or of another call, nor do the lists of constraints.
func TestRowsOfOwnsItsMemory(t *testing.T) {
	draw := draws(1091)
	for i, told := range append(someCircuits(draw), notCircuits()[:40]...) {
		c := circuitWithSpare(told)
		ins := withSpare(drawnList(draw, max(told.Inputs, 0)%7))
		if i%5 == 0 {
			ins = c.Outs
		}
		wantCircuitsKept(t, "RowsOf and RowsWitness", []impl.Circuit{c}, [][]int{ins}, func() ([][]impl.Gate, [][]int) {
			first, _ := impl.RowsOf(c)
			second, _ := impl.RowsOf(c)
			one, _ := impl.RowsWitness(c, ins)
			other, _ := impl.RowsWitness(c, ins)
			return nil, append(listsOf(slices.Concat(first, second)), one, other)
		})
		first, _ := impl.RowsOf(c)
		second, _ := impl.RowsOf(c)
		clear(second[:cap(second)])
		if ok := impl.CircuitOk(c); ok && !sameRows(first, rowsReckoned(c)) {
			t.Errorf("two calls of RowsOf(%v) share memory", c)
		}
	}
}

// P111 and P112: neither constraints nor witnesses are changed.
func TestRowsHoldChangesNothing(t *testing.T) {
	draw := draws(1111)
	x := heldRows(draw, 5, drawnWitness(draw, 9))
	for _, one := range slices.Concat(someConstrained(draw), circuitsConstrained(draw), longConstrained(draw), brokenConstrained(x)) {
		rows, w := rowsWithSpare(one.rows), withSpare(one.w)
		call := func() [][]int {
			return [][]int{{impl.RowsFirst(rows, w), oneIf(impl.RowsHold(rows, w))}}
		}
		wantRowsKept(t, "RowsFirst and RowsHold", rows, [][]int{w}, call)
		if len(rows) > 0 {
			rows[0] = impl.Row{A: w, B: w, C: w}
			wantRowsKept(t, "RowsFirst and RowsHold", rows, [][]int{w}, call)
		}
	}
}

// P109 to P113: what was told before does not count, nor what is told at the same time.
func TestConstraintsKeepNoState(t *testing.T) {
	atTheSameTime(1131, func(draw func(int) int) {
		circuits, list := someCircuits(draw), someConstrained(draw)
		for range 2 {
			for i, c := range circuits {
				x := list[i*7%len(list)]
				impl.RowsFirst(nil, []int{1})
				impl.RowsOf(impl.Circuit{})
				rows, ok := impl.RowsOf(c)
				ins := slices.Repeat([]int{100 + i%13}, c.Inputs)
				w, fine := impl.RowsWitness(c, ins)
				if !ok || !fine || !sameRows(rows, rowsReckoned(c)) || !slices.Equal(w, witnessReckoned(c, ins)) || !impl.RowsHold(rows, w) {
					t.Errorf("of %v there are %v and %v", c, rows, w)
				}
				if got := impl.RowsFirst(x.rows, x.w); got != x.firstReckoned() {
					t.Errorf("RowsFirst(%v, %v) is %d", x.rows, x.w, got)
				}
			}
			slices.Reverse(circuits)
			slices.Reverse(list)
		}
	})
}
