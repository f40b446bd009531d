package tests

import (
	"fmt"
	"slices"
	"testing"

	"loop.example/underveil/impl"
)

// The kinds are written out here, so that a wrong constant of the program is seen.

func gateInput(input int) impl.Gate { return impl.Gate{Kind: 0, A: input} }

func gateConst(a int) impl.Gate { return impl.Gate{Kind: 1, A: a} }

func gateAdd(a, b int) impl.Gate { return impl.Gate{Kind: 2, A: a, B: b} }

func gateSub(a, b int) impl.Gate { return impl.Gate{Kind: 3, A: a, B: b} }

func gateMul(a, b int) impl.Gate { return impl.Gate{Kind: 4, A: a, B: b} }

func circuit(inputs int, outs []int, gates ...impl.Gate) impl.Circuit {
	return impl.Circuit{Inputs: inputs, Gates: gates, Outs: outs}
}

// powersCircuit returns a circuit of powers of one input, which each of some steps makes of two earlier ones; the last one is the output.
func powersCircuit(steps ...[2]int) impl.Circuit {
	c := circuit(1, []int{len(steps)}, gateInput(0))
	exponents := []int{1}
	for _, s := range steps {
		c.Gates = append(c.Gates, gateMul(slices.Index(exponents, s[0]), slices.Index(exponents, s[1])))
		exponents = append(exponents, s[0]+s[1])
	}
	return c
}

// squaresCircuit returns a circuit that squares one input so many times.
func squaresCircuit(times int) impl.Circuit {
	var steps [][2]int
	for i := range times {
		steps = append(steps, [2]int{1 << i, 1 << i})
	}
	return powersCircuit(steps...)
}

// steps1000 makes the power 1000 of one input with 15 gates.
func steps1000() [][2]int {
	return [][2]int{{1, 1}, {2, 1}, {3, 3}, {6, 1}, {7, 7}, {14, 1}, {15, 15}, {30, 1}, {31, 31}, {62, 62}, {124, 1}, {125, 125}, {250, 250}, {500, 500}}
}

// steps999 makes the power 999 of one input with 15 gates.
func steps999() [][2]int {
	return [][2]int{{1, 1}, {2, 1}, {3, 3}, {6, 3}, {9, 9}, {18, 9}, {27, 9}, {36, 1}, {37, 37}, {74, 37}, {111, 111}, {222, 111}, {333, 333}, {666, 333}}
}

// chosenCircuits returns the circuits whose depth and degree are reckoned by hand.
func chosenCircuits() []struct {
	c             impl.Circuit
	depth, degree int
} {
	sixteenth := slices.Repeat([]impl.Gate{gateConst(112)}, 16)
	return []struct {
		c             impl.Circuit
		depth, degree int
	}{
		{circuit(1, []int{0}, gateInput(0)), 0, 1},
		{circuit(1, []int{0}, gateConst(0)), 0, 0},
		{circuit(6, []int{0}, gateConst(112)), 0, 0}, // no gate reads an input
		{circuit(6, []int{0}, gateInput(5)), 0, 1},
		{circuit(6, []int{10, 5, 0}, gateInput(0), gateInput(1), gateInput(2), gateInput(3), gateInput(4), gateInput(5), gateMul(0, 1), gateMul(6, 2), gateAdd(7, 3), gateSub(4, 8), gateMul(9, 5)), 3, 4},
		{circuit(3, []int{2}, gateInput(2), gateInput(0), gateSub(0, 1)), 0, 1},                               // no gate reads input 1
		{circuit(1, []int{1}, gateInput(0), gateMul(0, 0)), 1, 2},                                             // by one gate as both
		{circuit(1, []int{1}, gateInput(0), gateAdd(0, 0)), 0, 1},                                             // twice the input
		{circuit(1, []int{2}, gateInput(0), gateMul(0, 0), gateSub(1, 1)), 1, 2},                              // always 0, but the degree counts
		{circuit(2, []int{4}, gateInput(0), gateInput(1), gateMul(0, 1), gateAdd(0, 1), gateMul(2, 3)), 2, 3}, // each input by two gates
		{circuit(1, []int{0, 0}, gateInput(0), gateMul(0, 0)), 0, 1},                                          // an output twice, and one gate is none
		{circuit(1, []int{2, 0, 1, 1}, gateInput(0), gateInput(0), gateMul(0, 1)), 1, 2},                      // an input that two gates are
		{circuit(1, []int{2}, gateConst(5), gateConst(0), gateMul(0, 1)), 1, 0},
		{circuit(1, []int{3}, gateConst(5), gateInput(0), gateMul(0, 0), gateMul(2, 1)), 2, 1},
		{circuit(1, []int{5}, gateConst(5), gateMul(0, 0), gateMul(1, 1), gateInput(0), gateMul(3, 3), gateAdd(4, 2)), 2, 2},    // the deeper one is not of the greater degree
		{circuit(1, []int{4, 5}, gateConst(5), gateMul(0, 0), gateMul(1, 1), gateInput(0), gateSub(3, 2), gateMul(3, 3)), 2, 2}, // nor is the output
		{circuit(1, slices.Repeat([]int{0}, 16), gateInput(0)), 0, 1},
		{circuit(1, []int{15}, sixteenth...), 0, 0},
		{circuit(1, allNumbers()[:16], sixteenth...), 0, 0},
		{squaresCircuit(1), 1, 2}, {squaresCircuit(4), 4, 16}, {squaresCircuit(9), 9, 512}, {squaresCircuit(10), 10, 1000}, {squaresCircuit(15), 15, 1000},
		{powersCircuit(steps999()...), 14, 999},
		{powersCircuit(steps1000()...), 14, 1000},
		{powersCircuit(append(steps1000(), [2]int{1000, 1})...), 15, 1000},
	}
}

// drawnCircuit returns a circuit of drawn gates, of which some read just the last ones, so that there are products of products.
func drawnCircuit(draw func(int) int, inputs, gates, outs int) impl.Circuit {
	c := impl.Circuit{Inputs: inputs}
	for i := range gates {
		kind := draw(7)
		switch {
		case i == 0 && kind > 0 || kind == 1:
			c.Gates = append(c.Gates, gateConst(drawnList(draw, 1)[0]))
		case kind == 0 || i < 2:
			c.Gates = append(c.Gates, gateInput(draw(inputs)))
		default:
			reach := 1 + draw(i)
			c.Gates = append(c.Gates, impl.Gate{Kind: min(kind, 4), A: i - 1 - draw(reach), B: i - 1 - draw(reach)})
		}
	}
	for range outs {
		c.Outs = append(c.Outs, draw(gates))
	}
	return c
}

// someCircuits returns the chosen circuits, powers of one input up to the 19th, and drawn circuits with all numbers of inputs, of gates and of outputs.
func someCircuits(draw func(int) int) []impl.Circuit {
	var list []impl.Circuit
	for _, chosen := range chosenCircuits() {
		list = append(list, chosen.c)
	}
	var steps [][2]int
	for exponent := 2; exponent <= 16; exponent++ {
		steps = append(steps, [2]int{exponent - 1, 1})
		list = append(list, powersCircuit(steps...))
	}
	for _, exponent := range []int{1, 2, 3} {
		list = append(list, powersCircuit(append(slices.Clone(steps[:14]), [2]int{15, exponent + 1})...))
	}
	for most := 1; most <= 16; most++ {
		for inputs := 1; inputs <= 6; inputs++ {
			list = append(list, drawnCircuit(draw, inputs, most, 1+draw(16)), drawnCircuit(draw, inputs, 1+draw(16), most))
		}
	}
	return list
}

// brokenGates returns gates that are none at an index of a circuit with so many inputs; all of them have just one fault.
func brokenGates(index, inputs int) []impl.Gate {
	list := []impl.Gate{gateInput(inputs), gateInput(6), gateInput(7), gateInput(inputs + 113)}
	for _, bad := range append(extremes(), index, index+1, 15, 16, 17) {
		if bad >= index || bad < 0 {
			for kind := 2; kind <= 4; kind++ {
				list = append(list, impl.Gate{Kind: kind, A: bad}, impl.Gate{Kind: kind, B: bad}, impl.Gate{Kind: kind, A: bad, B: bad})
			}
		}
	}
	for _, bad := range extremes() {
		list = append(list, gateInput(bad), gateConst(bad), impl.Gate{Kind: bad})
	}
	for _, bad := range append(extremes(), 1, 2, 16, 112) {
		list = append(list, impl.Gate{Kind: 0, B: bad}, impl.Gate{Kind: 1, B: bad}, impl.Gate{Kind: 1, A: 112, B: bad})
	}
	for _, kind := range []int{5, 6, 7, 256, 260} {
		list = append(list, impl.Gate{Kind: kind})
	}
	return list
}

// notCircuits returns circuits that are not valid; most have just one fault.
func notCircuits() []impl.Circuit {
	ones := slices.Repeat([]impl.Gate{gateConst(1)}, 1000)
	list := []impl.Circuit{{}, {Inputs: 1}, circuit(1, []int{0}), circuit(1, nil, gateConst(1)), circuit(1, []int{}, gateInput(0)),
		circuit(1, []int{0}, ones[:17]...), circuit(1, []int{16}, ones[:17]...), circuit(1, []int{0}, ones...),
		circuit(1, make([]int, 17), gateInput(0)), circuit(1, make([]int, 1000), gateInput(0)), circuit(1, allNumbers()[:17], ones[:16]...)}
	for _, inputs := range append(extremes(), 0, 7, 8, 16) {
		list = append(list, circuit(inputs, []int{0}, gateConst(1)), circuit(inputs, []int{0}, gateInput(0)), circuit(inputs, []int{0}, gateInput(6)))
	}
	for _, c := range []impl.Circuit{circuit(1, []int{0}, ones[:1]...), circuit(6, []int{0, 15, 7}, ones[:16]...), circuit(2, []int{3, 1}, gateInput(0), gateInput(1), gateMul(0, 1), gateAdd(0, 2))} {
		for i := range c.Outs {
			for _, bad := range append(extremes(), len(c.Gates), len(c.Gates)+1) {
				broken := circuit(c.Inputs, slices.Clone(c.Outs), c.Gates...)
				broken.Outs[i] = bad
				list = append(list, broken)
			}
		}
		for i := range c.Gates {
			for _, bad := range brokenGates(i, c.Inputs) {
				broken := circuit(c.Inputs, c.Outs, slices.Clone(c.Gates)...)
				broken.Gates[i] = bad
				list = append(list, broken)
			}
		}
	}
	return list
}

// someIns returns inputs of so many numbers: zeros, the greatest ones, and drawn ones.
func someIns(draw func(int) int, n int) [][]int {
	return [][]int{make([]int, n), slices.Repeat([]int{112}, n), drawnList(draw, n), drawnList(draw, n)}
}

// valuesReckoned reckons the values of all gates of a valid circuit.
func valuesReckoned(c impl.Circuit, ins []int) []int {
	var values []int
	for _, g := range c.Gates {
		value := g.A
		switch g.Kind {
		case 0:
			value = ins[g.A]
		case 2:
			value = values[g.A] + values[g.B]
		case 3:
			value = values[g.A] + 113 - values[g.B]
		case 4:
			value = values[g.A] * values[g.B]
		}
		values = append(values, value%113)
	}
	return values
}

// depthReckoned reckons the depth of a gate: the most products on a way back from it.
func depthReckoned(c impl.Circuit, index int) int {
	known := make([]int, index+1)
	for i, g := range c.Gates[:index+1] {
		for _, from := range []int{g.A, g.B} {
			if g.Kind >= 2 {
				known[i] = max(known[i], known[from]+g.Kind/4)
			}
		}
	}
	return known[index]
}

// degreeReckoned reckons the degree of a gate: how many inputs the greatest product that it is a sum of has.
func degreeReckoned(c impl.Circuit, index int) int {
	known := map[int]int{}
	for i, g := range c.Gates[:index+1] {
		switch {
		case g.Kind == 0:
			known[i] = 1
		case g.Kind == 4:
			known[i] = known[g.A] + known[g.B]
		case g.Kind != 1:
			known[i] = max(known[g.A], known[g.B])
		}
	}
	return known[index]
}

// greatest returns the greatest number that is reckoned of an output.
func greatest(c impl.Circuit, reckoned func(impl.Circuit, int) int) int {
	most := 0
	for _, out := range c.Outs {
		most = max(most, reckoned(c, out))
	}
	return most
}

// outsReckoned returns the values at the outputs.
func outsReckoned(c impl.Circuit, values []int) []int {
	var outs []int
	for _, out := range c.Outs {
		outs = append(outs, values[out])
	}
	return outs
}

// joinedReckoned reckons what CircuitJoin tells of circuits that can be joined.
func joinedReckoned(a, b impl.Circuit) impl.Circuit {
	zero := len(a.Gates)
	c := circuit(a.Inputs, nil, append(slices.Clone(a.Gates), gateConst(0))...)
	for _, g := range b.Gates {
		switch g.Kind {
		case 0:
			g = gateAdd(a.Outs[g.A], zero)
		case 2, 3, 4:
			g.A += zero + 1
			g.B += zero + 1
		}
		c.Gates = append(c.Gates, g)
	}
	for _, out := range b.Outs {
		c.Outs = append(c.Outs, zero+1+out)
	}
	return c
}

func sameCircuit(a, b impl.Circuit) bool {
	return a.Inputs == b.Inputs && slices.Equal(a.Gates, b.Gates) && slices.Equal(a.Outs, b.Outs)
}

func circuitValues(t *testing.T, c impl.Circuit, ins []int) []int {
	t.Helper()
	values, ok := impl.CircuitValues(c, ins)
	return wantList(t, fmt.Sprintf("CircuitValues(%v, %v)", c, ins), values, ok, len(c.Gates))
}

func circuitRun(t *testing.T, c impl.Circuit, ins []int) []int {
	t.Helper()
	outs, ok := impl.CircuitRun(c, ins)
	return wantList(t, fmt.Sprintf("CircuitRun(%v, %v)", c, ins), outs, ok, len(c.Outs))
}

// wantNotRun fails the test unless nothing is told of a circuit on inputs.
func wantNotRun(t *testing.T, c impl.Circuit, ins []int) {
	t.Helper()
	values, ok := impl.CircuitValues(c, ins)
	wantNoList(t, fmt.Sprintf("CircuitValues(%v, %v)", c, ins), values, ok)
	outs, ok := impl.CircuitRun(c, ins)
	wantNoList(t, fmt.Sprintf("CircuitRun(%v, %v)", c, ins), outs, ok)
}

// wantNotJoined fails the test unless nothing is told of two circuits.
func wantNotJoined(t *testing.T, a, b impl.Circuit) {
	t.Helper()
	if c, ok := impl.CircuitJoin(a, b); ok || !sameCircuit(c, impl.Circuit{}) {
		t.Errorf("CircuitJoin(%v, %v) is %v, %v, not nothing and false", a, b, c, ok)
	}
}

// P42: and the degree and the depth are as reckoned.
func TestCircuitDegreeIsToldJustOfValidCircuits(t *testing.T) {
	for _, c := range someCircuits(draws(42)) {
		if !impl.CircuitOk(c) {
			t.Errorf("CircuitOk(%v) is false", c)
		}
		if got, want := impl.CircuitDegree(c), min(greatest(c, degreeReckoned), 1000); got != want {
			t.Errorf("CircuitDegree(%v) is %d, not %d", c, got, want)
		}
		if got, want := impl.CircuitDepth(c), greatest(c, depthReckoned); got != want {
			t.Errorf("CircuitDepth(%v) is %d, not %d", c, got, want)
		}
	}
	for _, c := range notCircuits() {
		if impl.CircuitOk(c) {
			t.Errorf("CircuitOk(%v) is true", c)
		}
		if degree, depth := impl.CircuitDegree(c), impl.CircuitDepth(c); degree != -1 || depth != -1 {
			t.Errorf("CircuitDegree(%v) is %d, and CircuitDepth %d, not -1", c, degree, depth)
		}
	}
}

// P42 and P45, with answers reckoned by hand.
func TestDegreesAndDepthsReckonedByHand(t *testing.T) {
	for _, chosen := range chosenCircuits() {
		if degree, depth := impl.CircuitDegree(chosen.c), impl.CircuitDepth(chosen.c); degree != chosen.degree || depth != chosen.depth {
			t.Errorf("CircuitDegree(%v) is %d, not %d, and CircuitDepth %d, not %d", chosen.c, degree, chosen.degree, depth, chosen.depth)
		}
	}
}

// P43
func TestCircuitValuesHasOneNumberForEachGate(t *testing.T) {
	draw := draws(43)
	for _, c := range someCircuits(draw) {
		for _, ins := range someIns(draw, c.Inputs) {
			if got, want := circuitValues(t, c, ins), valuesReckoned(c, ins); !slices.Equal(got, want) {
				t.Errorf("CircuitValues(%v, %v) is %v, not %v", c, ins, got, want)
			}
		}
	}
}

// P43 and P44, with answers reckoned by hand.
func TestCircuitValuesReckonedByHand(t *testing.T) {
	kinds := circuit(2, []int{6, 6, 0}, gateInput(1), gateInput(0), gateConst(7), gateAdd(0, 1), gateSub(2, 3), gateSub(3, 2), gateMul(4, 5))
	for _, c := range []struct {
		c            impl.Circuit
		ins          []int
		values, outs []int
	}{
		{kinds, []int{3, 5}, []int{5, 3, 7, 8, 112, 1, 112}, []int{112, 112, 5}},
		{kinds, []int{112, 112}, []int{112, 112, 7, 111, 9, 104, 32}, []int{32, 32, 112}},
		{kinds, []int{0, 0}, []int{0, 0, 7, 0, 7, 106, 64}, []int{64, 64, 0}},
		{circuit(1, []int{0}, gateInput(0)), []int{0}, []int{0}, []int{0}},
		{circuit(1, []int{0}, gateInput(0)), []int{112}, []int{112}, []int{112}},
		{circuit(1, []int{0}, gateConst(0)), []int{112}, []int{0}, []int{0}},
		{circuit(1, []int{0}, gateConst(112)), []int{0}, []int{112}, []int{112}},
		{circuit(1, []int{1, 2, 3}, gateInput(0), gateAdd(0, 0), gateSub(0, 0), gateMul(0, 0)), []int{112}, []int{112, 111, 0, 1}, []int{111, 0, 1}},
		{circuit(6, []int{1, 0}, gateInput(5), gateInput(0)), []int{1, 2, 3, 4, 5, 6}, []int{6, 1}, []int{1, 6}},
		{squaresCircuit(7), []int{2}, []int{2, 4, 16, 30, 109, 16, 30, 109}, []int{109}}, // 16*16 = 30, 30*30 = 109 = -4, and 16 again
	} {
		if values, outs := circuitValues(t, c.c, c.ins), circuitRun(t, c.c, c.ins); !slices.Equal(values, c.values) || !slices.Equal(outs, c.outs) {
			t.Errorf("CircuitValues(%v, %v) is %v, not %v, and CircuitRun %v, not %v", c.c, c.ins, values, c.values, outs, c.outs)
		}
	}
}

// P43 and P44: of circuits that are not valid, and of inputs that do not fit.
func TestCircuitsAreRunJustOnInputs(t *testing.T) {
	draw := draws(430)
	for _, c := range notCircuits() {
		wantNotRun(t, c, nil)
		for n := 1; n <= 7; n++ {
			wantNotRun(t, c, make([]int, n))
		}
	}
	for _, c := range someCircuits(draw) {
		for _, bad := range notLists(c.Inputs) {
			wantNotRun(t, c, bad)
		}
		wantNotRun(t, c, nil)
	}
	for _, bad := range notNumbers() {
		wantNotRun(t, circuit(1, []int{0}, gateInput(0)), []int{bad})
		wantNotRun(t, circuit(2, []int{0}, gateInput(0)), []int{5, bad}) // no gate reads it
	}
}

// P44
func TestCircuitRunIsCircuitValuesAtTheOutputs(t *testing.T) {
	draw := draws(44)
	for _, c := range someCircuits(draw) {
		for _, ins := range someIns(draw, c.Inputs) {
			if got, want := circuitRun(t, c, ins), outsReckoned(c, circuitValues(t, c, ins)); !slices.Equal(got, want) {
				t.Errorf("CircuitRun(%v, %v) is %v, not %v", c, ins, got, want)
			}
		}
	}
}

// P45
func TestCircuitDepthIsAtMostTheNumberOfProducts(t *testing.T) {
	for _, c := range someCircuits(draws(45)) {
		products := 0
		for _, g := range c.Gates {
			products += g.Kind / 4
		}
		depth, degree := impl.CircuitDepth(c), impl.CircuitDegree(c)
		if depth < 0 || depth > products || degree < 0 || degree > 1<<depth || degree > 1000 {
			t.Errorf("CircuitDepth(%v) is %d, with %d products, and CircuitDegree %d", c, depth, products, degree)
		}
	}
	for times := range 16 {
		c := squaresCircuit(times)
		if depth, degree := impl.CircuitDepth(c), impl.CircuitDegree(c); depth != times || degree != min(1<<times, 1000) {
			t.Errorf("CircuitDepth(%v) is %d, and CircuitDegree %d", c, depth, degree)
		}
	}
}

// P46: at the next number, and at all others.
func TestOutputsAreOfAPolynomialOfCircuitDegree(t *testing.T) {
	checked := map[int]int{}
	for _, c := range someCircuits(draws(46)) {
		degree := impl.CircuitDegree(c)
		if degree > 19 {
			continue
		}
		checked[degree]++
		var told [][]int
		for x := range 113 {
			ins := slices.Repeat([]int{1}, c.Inputs)
			ins[0] = x
			told = append(told, circuitRun(t, c, ins))
		}
		for i := range c.Outs {
			var list []impl.Point
			for x := 0; x <= degree; x++ {
				list = append(list, impl.Point{X: x, Y: told[x][i]})
			}
			p := polyThrough(t, list)
			for x := range 113 {
				if got := polyAt(t, p, x); got != told[x][i] {
					t.Errorf("output %d of %v is %d at %d, not %d", i, c, told[x][i], x, got)
				}
			}
		}
	}
	for degree := range 20 {
		if checked[degree] == 0 {
			t.Errorf("no circuit has the degree %d", degree)
		}
	}
}

// P46: a power of the input is of no polynomial of less degree.
func TestPowersAreOfNoLessDegree(t *testing.T) {
	for exponent := 1; exponent <= 15; exponent++ {
		var steps [][2]int
		for e := 1; e < exponent; e++ {
			steps = append(steps, [2]int{e, 1})
		}
		c := powersCircuit(steps...)
		var list []impl.Point
		for x := range 20 {
			list = append(list, impl.Point{X: x, Y: circuitRun(t, c, []int{x})[0]})
		}
		if p := polyThrough(t, list); len(p) != exponent+1 || impl.CircuitDegree(c) != exponent {
			t.Errorf("%v has the values of %v, and the degree %d", c, p, impl.CircuitDegree(c))
		}
	}
}

// wantJoined fails the test unless CircuitJoin is as reckoned, and its outputs are those of b on the outputs of a.
func wantJoined(t *testing.T, draw func(int) int, a, b impl.Circuit) {
	t.Helper()
	c, ok := impl.CircuitJoin(a, b)
	if want := joinedReckoned(a, b); !ok || !sameCircuit(c, want) {
		t.Fatalf("CircuitJoin(%v, %v) is %v, %v, not %v", a, b, c, ok, want)
	}
	if !impl.CircuitOk(c) {
		t.Errorf("CircuitJoin(%v, %v) is %v, which is not valid", a, b, c)
	}
	for _, ins := range someIns(draw, a.Inputs) {
		if got, want := circuitRun(t, c, ins), circuitRun(t, b, circuitRun(t, a, ins)); !slices.Equal(got, want) {
			t.Errorf("CircuitRun of CircuitJoin(%v, %v) on %v is %v, not %v", a, b, ins, got, want)
		}
	}
}

// P47: of circuits with all numbers of gates, up to just 16 and with one more.
func TestCircuitRunOfCircuitJoin(t *testing.T) {
	draw := draws(47)
	for ahead := 1; ahead <= 16; ahead++ {
		for behind := 1; behind <= 16; behind++ {
			for outs := 1; outs <= 6; outs++ {
				a, b := drawnCircuit(draw, 1+draw(6), ahead, outs), drawnCircuit(draw, outs, behind, 1+draw(16))
				if ahead+1+behind <= 16 {
					wantJoined(t, draw, a, b)
				} else {
					wantNotJoined(t, a, b)
				}
			}
		}
	}
}

// P47, with answers reckoned by hand; the constant 0 is there also if b has no gate that is an input.
func TestCircuitJoinReckonedByHand(t *testing.T) {
	in := circuit(1, []int{0}, gateInput(0))
	kinds := circuit(2, []int{3, 0, 5}, gateInput(1), gateConst(9), gateInput(0), gateAdd(0, 1), gateSub(2, 3), gateMul(4, 1))
	for _, c := range []struct{ a, b, want impl.Circuit }{
		{in, in, circuit(1, []int{2}, gateInput(0), gateConst(0), gateAdd(0, 1))},
		{in, circuit(1, []int{0, 0}, gateConst(112)), circuit(1, []int{2, 2}, gateInput(0), gateConst(0), gateConst(112))},
		{circuit(6, []int{1, 0}, gateInput(4), gateConst(3)), kinds,
			circuit(6, []int{6, 3, 8}, gateInput(4), gateConst(3), gateConst(0), gateAdd(0, 2), gateConst(9), gateAdd(1, 2), gateAdd(3, 4), gateSub(5, 6), gateMul(7, 4))},
		{kinds, circuit(3, []int{2, 1}, gateInput(2), gateInput(0), gateMul(0, 1), gateSub(2, 2)),
			circuit(2, []int{9, 8}, gateInput(1), gateConst(9), gateInput(0), gateAdd(0, 1), gateSub(2, 3), gateMul(4, 1), gateConst(0), gateAdd(5, 6), gateAdd(3, 6), gateMul(7, 8), gateSub(9, 9))},
		{circuit(1, slices.Repeat([]int{1}, 6), gateConst(4), gateInput(0)), circuit(6, []int{0}, gateInput(5)), circuit(1, []int{3}, gateConst(4), gateInput(0), gateConst(0), gateAdd(1, 2))},
	} {
		if got, ok := impl.CircuitJoin(c.a, c.b); !ok || !sameCircuit(got, c.want) {
			t.Errorf("CircuitJoin(%v, %v) is %v, %v, not %v", c.a, c.b, got, ok, c.want)
		}
	}
}

// P47: of circuits that are not valid, and of ones whose inputs are not as many as the outputs.
func TestCircuitsAreJoinedJustIfTheyFit(t *testing.T) {
	draw := draws(470)
	for _, bad := range notCircuits() {
		for n := 1; n <= 6; n++ {
			wantNotJoined(t, bad, circuit(n, []int{0}, gateInput(0)))
			wantNotJoined(t, circuit(1, make([]int, n), gateInput(0)), bad)
		}
		wantNotJoined(t, bad, bad)
	}
	for outs := 1; outs <= 16; outs++ {
		for inputs := 1; inputs <= 6; inputs++ {
			a, b := drawnCircuit(draw, 1+draw(6), 1+draw(7), outs), drawnCircuit(draw, inputs, 1+draw(7), 1+draw(16))
			if outs == inputs {
				wantJoined(t, draw, a, b)
			} else {
				wantNotJoined(t, a, b)
			}
		}
	}
}

// circuitWithSpare returns a copy of a circuit, whose gates and outputs have room for more behind them.
func circuitWithSpare(c impl.Circuit) impl.Circuit {
	return circuit(c.Inputs, withSpare(c.Outs), withRoom(c.Gates, impl.Gate{Kind: spare})...)
}

// wantCircuitsKept fails the test if a call of circuits and lists does not keep the rules on memory, or if what it tells of gates or lists does not.
func wantCircuitsKept(t *testing.T, name string, circuits []impl.Circuit, lists [][]int, call func() ([][]impl.Gate, [][]int)) {
	t.Helper()
	var gates [][]impl.Gate
	for _, c := range circuits {
		gates, lists = append(gates, c.Gates), append(lists, c.Outs)
	}
	toldGates := func() [][]impl.Gate {
		told, _ := call()
		return told
	}
	toldLists := func() [][]int {
		_, told := call()
		return told
	}
	mark := impl.Gate{Kind: spare - 1}
	wantOwnMemoryOf(t, name, gates, mark, toldGates)
	wantOwnMemoryOf(t, name, lists, mark, toldGates)
	wantOwnMemoryOf(t, name, gates, spare-1, toldLists)
	wantOwnMemoryOf(t, name, lists, spare-1, toldLists)
}

// P42 to P47: the general rules on memory. Each function is called twice, so that both results are held against each other.
func TestCircuitsOwnTheirMemory(t *testing.T) {
	draw := draws(471)
	for _, told := range append(someCircuits(draw), notCircuits()[:40]...) {
		c := circuitWithSpare(told)
		for _, ins := range [][]int{withSpare(drawnList(draw, max(told.Inputs, 0)%7)), withSpare([]int{113}), c.Outs} {
			wantCircuitsKept(t, "CircuitValues", []impl.Circuit{c}, [][]int{ins}, func() ([][]impl.Gate, [][]int) {
				first, _ := impl.CircuitValues(c, ins)
				second, _ := impl.CircuitValues(c, ins)
				return nil, [][]int{first, second}
			})
			wantCircuitsKept(t, "CircuitRun", []impl.Circuit{c}, [][]int{ins}, func() ([][]impl.Gate, [][]int) {
				first, _ := impl.CircuitRun(c, ins)
				second, _ := impl.CircuitRun(c, ins)
				return nil, [][]int{first, second}
			})
		}
		wantCircuitsKept(t, "CircuitOk, CircuitDepth and CircuitDegree", []impl.Circuit{c}, nil, func() ([][]impl.Gate, [][]int) {
			impl.CircuitOk(c)
			return nil, [][]int{{impl.CircuitDepth(c), impl.CircuitDegree(c)}}
		})
		behind := circuitWithSpare(drawnCircuit(draw, min(len(c.Outs), 6)+1-min(len(c.Outs), 1), 1+draw(3), 1+draw(16)))
		for _, b := range []impl.Circuit{behind, c} {
			wantCircuitsKept(t, "CircuitJoin", []impl.Circuit{c, b}, nil, func() ([][]impl.Gate, [][]int) {
				first, _ := impl.CircuitJoin(c, b)
				second, _ := impl.CircuitJoin(c, b)
				return [][]impl.Gate{first.Gates, second.Gates}, [][]int{first.Outs, second.Outs}
			})
		}
	}
}

// P42 to P47: what was told before does not count, whatever it was.
func TestCircuitsKeepNoState(t *testing.T) {
	draw := draws(472)
	circuits := append(someCircuits(draw), notCircuits()[:40]...)
	told := func(c impl.Circuit) string {
		ins := slices.Repeat([]int{100}, min(max(c.Inputs, 0), 9))
		values, valued := impl.CircuitValues(c, ins)
		outs, run := impl.CircuitRun(c, ins)
		joined, ok := impl.CircuitJoin(c, circuit(1, []int{0}, gateInput(0)))
		return fmt.Sprint(impl.CircuitOk(c), values, valued, outs, run, impl.CircuitDepth(c), impl.CircuitDegree(c), joined, ok)
	}
	var before []string
	for _, c := range circuits {
		before = append(before, told(c))
	}
	for i, c := range reversed(circuits) {
		if got, want := told(c), before[len(before)-1-i]; got != want {
			t.Errorf("of %v is told %s, and %s before", c, got, want)
		}
	}
}
