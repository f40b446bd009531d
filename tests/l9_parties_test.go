package tests

import (
	"fmt"
	"runtime"
	"slices"
	"sync"
	"testing"
	"time"

	"loop.example/underveil/impl"
)

// execution is a circuit on inputs, for n parties and a bound, with a tape.
type execution struct {
	c        impl.Circuit
	ins      []int
	n, bound int
	tape     []int
}

// run is what PartiesRun tells of an execution.
func (e execution) run() (impl.Run, bool) {
	return impl.PartiesRun(e.c, e.ins, e.n, e.bound, e.tape)
}

// needReckoned reckons how many numbers of a tape are needed: the bound for each input, and for each party and product.
func needReckoned(c impl.Circuit, n, bound int) int {
	need := 0
	for _, g := range c.Gates {
		need += []int{bound, 0, 0, 0, bound * n}[g.Kind]
	}
	return need
}

// reckoned reckons the run of a valid execution. A party's share of a product is the value at 0 of the polynomial through what it receives of the parties 1 to 2*bound+1.
func (e execution) reckoned() impl.Run {
	drawn := 0
	giveOut := func(a int) []impl.Point {
		drawn += e.bound
		return sharesReckoned(giving{a, e.n, e.tape[drawn-e.bound : drawn]})
	}
	var shares [][]impl.Point
	for _, g := range e.c.Gates {
		list := sharesReckoned(giving{g.A, e.n, nil})
		switch g.Kind {
		case 0:
			list = giveOut(e.ins[g.A])
		case 2:
			for i := range list {
				list[i].Y = (shares[g.A][i].Y + shares[g.B][i].Y) % 113
			}
		case 3:
			for i := range list {
				list[i].Y = (shares[g.A][i].Y + 113 - shares[g.B][i].Y) % 113
			}
		case 4:
			received := make([][]impl.Point, e.n)
			for i := range e.n {
				for j, share := range giveOut(shares[g.A][i].Y * shares[g.B][i].Y % 113) {
					received[j] = append(received[j], impl.Point{X: i + 1, Y: share.Y})
				}
			}
			for j := range list {
				list[j].Y = joinReckoned(received[j][:2*e.bound+1])
			}
		}
		shares = append(shares, list)
	}
	return impl.Run{Shares: shares, Outs: outsReckoned(e.c, valuesReckoned(e.c, e.ins))}
}

func sameRun(a, b impl.Run) bool {
	return sameLists(a.Shares, b.Shares) && slices.Equal(a.Outs, b.Outs)
}

// mixedCircuit returns a circuit with all kinds of gates: an input that two gates are, a product of a gate with itself, and a product of products.
func mixedCircuit() impl.Circuit {
	return circuit(2, []int{7, 4, 7, 0}, gateInput(1), gateInput(0), gateConst(100), gateMul(0, 1), gateMul(3, 3), gateSub(4, 2), gateInput(1), gateMul(5, 4), gateAdd(6, 7))
}

// productsCircuit returns a circuit of an input and 15 products, of the gates before.
func productsCircuit() impl.Circuit {
	c := circuit(1, []int{15, 8}, gateInput(0))
	for i := range 15 {
		c.Gates = append(c.Gates, gateMul(i, i*7%(i+1)))
	}
	return c
}

// parties calls a function for each number of parties and each bound that there may be for it.
func parties(call func(n, bound int)) {
	for n := 1; n <= 7; n++ {
		for bound := 0; 2*bound+1 <= n; bound++ {
			call(n, bound)
		}
	}
}

// someTapes returns tapes for an execution that needs so many numbers: just as long, one longer, and of 800 numbers; drawn ones, zeros and the greatest numbers.
func someTapes(draw func(int) int, need int) [][]int {
	return [][]int{drawnList(draw, need), drawnList(draw, need+1), drawnList(draw, 800), make([]int, need), make([]int, 800), slices.Repeat([]int{112}, need)}
}

// someExecutions returns executions for all numbers of parties and bounds, with some tapes each.
func someExecutions(draw func(int) int) []execution {
	var list []execution
	circuits := append(someCircuits(draw), mixedCircuit(), productsCircuit())
	parties(func(n, bound int) {
		for i, c := range circuits {
			for j, tape := range someTapes(draw, needReckoned(c, n, bound)) {
				if i < 30 && n == 7 || i >= len(circuits)-2 || j == i%6 {
					list = append(list, execution{c, someIns(draw, c.Inputs)[draw(4)], n, bound, tape})
				}
			}
		}
	})
	return list
}

// wantRun fails the test unless PartiesRun tells a run with as many shares for each gate as there are parties; it returns the run.
func wantRun(t *testing.T, e execution) impl.Run {
	t.Helper()
	run, ok := e.run()
	if !ok || len(run.Shares) != len(e.c.Gates) || len(run.Outs) != len(e.c.Outs) || slices.ContainsFunc(run.Shares, func(list []impl.Point) bool { return len(list) != e.n }) {
		t.Fatalf("PartiesRun of %v is %v, %v", e, run, ok)
	}
	return run
}

// wantNoRun fails the test unless PartiesRun tells nothing and false.
func wantNoRun(t *testing.T, e execution) {
	t.Helper()
	if run, ok := e.run(); ok || !sameRun(run, impl.Run{}) {
		t.Errorf("PartiesRun of %v is %v, %v, not nothing and false", e, run, ok)
	}
}

// P48: and with other bounds it is as reckoned.
func TestPartiesNeedWithTheBoundZeroIsZero(t *testing.T) {
	circuits := append(someCircuits(draws(48)), mixedCircuit(), productsCircuit())
	parties(func(n, bound int) {
		for _, c := range circuits {
			got, want := impl.PartiesNeed(c, n, bound), needReckoned(c, n, bound)
			if got != want || bound == 0 && got != 0 {
				t.Errorf("PartiesNeed(%v, %d, %d) is %d, not %d", c, n, bound, got, want)
			}
		}
	})
	for _, c := range []struct {
		c              impl.Circuit
		n, bound, need int
	}{
		{mixedCircuit(), 1, 0, 0}, {mixedCircuit(), 7, 0, 0}, {mixedCircuit(), 3, 1, 12}, {mixedCircuit(), 4, 1, 15}, {mixedCircuit(), 5, 1, 18}, {mixedCircuit(), 5, 2, 36}, {mixedCircuit(), 7, 3, 72},
		{productsCircuit(), 7, 3, 318}, {productsCircuit(), 7, 1, 106}, {productsCircuit(), 3, 1, 46},
		{circuit(6, []int{0}, gateInput(5)), 7, 3, 3}, {circuit(6, []int{0}, gateConst(5)), 7, 3, 0}, {circuit(6, []int{0}, gateInput(5), gateInput(5), gateInput(0)), 6, 2, 6},
		{circuit(1, []int{0}, gateConst(5), gateAdd(0, 0), gateSub(1, 0)), 7, 3, 0}, {circuit(1, []int{0}, gateConst(5), gateMul(0, 0)), 7, 2, 14}, // no output, but it is reckoned
	} {
		if got := impl.PartiesNeed(c.c, c.n, c.bound); got != c.need {
			t.Errorf("PartiesNeed(%v, %d, %d) is %d, not %d", c.c, c.n, c.bound, got, c.need)
		}
	}
}

// P48: of circuits that are not valid, and of parties and bounds that are none.
func TestPartiesNeedIsToldJustOfCircuitsAndParties(t *testing.T) {
	wantNone := func(c impl.Circuit, n, bound int) {
		t.Helper()
		if got := impl.PartiesNeed(c, n, bound); got != -1 {
			t.Errorf("PartiesNeed(%v, %d, %d) is %d, not -1", c, n, bound, got)
		}
		wantNoRun(t, execution{c, make([]int, max(c.Inputs, 0)%7), n, bound, make([]int, 800)})
	}
	for _, c := range notCircuits() {
		wantNone(c, 1, 0)
		wantNone(c, 7, 0)
		wantNone(c, 7, 3)
	}
	for _, c := range []impl.Circuit{mixedCircuit(), circuit(1, []int{0}, gateConst(1))} {
		for n := -20; n <= 20; n++ {
			for bound := -20; bound <= 20; bound++ {
				if n < 1 || n > 7 || bound < 0 || 2*bound+1 > n {
					wantNone(c, n, bound)
				}
			}
			for _, bad := range append(extremes(), -1<<62, 1<<62, -1<<63, 1<<63-1) { // of some of which twice the bound overflows
				wantNone(c, n, bad)
				wantNone(c, bad, n)
				wantNone(c, bad, bad)
			}
		}
	}
}

// P49: and the sums with each other power up to 2*bound are 0, too.
func TestWeightsOfTheParties(t *testing.T) {
	for bound := range 4 {
		sum, squares := 0, 0
		for i := 1; i <= 2*bound+1; i++ {
			weight, ok := impl.PartiesWeight(i, bound)
			wantNumber(t, "PartiesWeight", weight, ok)
			one := sharesReckoned(giving{0, 2*bound + 1, nil})
			one[i-1].Y = 1
			if want := joinReckoned(one); weight != want {
				t.Errorf("PartiesWeight(%d, %d) is %d, not %d", i, bound, weight, want)
			}
			sum, squares = sum+weight, squares+weight*i*i
		}
		if sum%113 != 1 || bound > 0 && squares%113 != 0 {
			t.Errorf("the weights for the bound %d are together %d, and times the squares %d", bound, sum%113, squares%113)
		}
	}
	for bound, row := range [][]int{{1}, {3, 110, 1}, {5, 103, 10, 108, 1}, {7, 92, 35, 78, 21, 106, 1}} {
		for i, want := range row {
			if got, ok := impl.PartiesWeight(i+1, bound); got != want || !ok {
				t.Errorf("PartiesWeight(%d, %d) is %d, %v, not %d", i+1, bound, got, ok, want)
			}
		}
	}
}

// P49: of parties and bounds that are none.
func TestPartiesWeightIsToldJustOfParties(t *testing.T) {
	wantNone := func(i, bound int) {
		t.Helper()
		weight, ok := impl.PartiesWeight(i, bound)
		wantNothing(t, fmt.Sprintf("PartiesWeight(%d, %d)", i, bound), weight, ok)
	}
	for i := -20; i <= 20; i++ {
		for bound := -20; bound <= 20; bound++ {
			if bound < 0 || bound > 3 || i < 1 || i > 2*bound+1 {
				wantNone(i, bound)
			}
		}
		for _, bad := range append(extremes(), -1<<62, 1<<62) {
			wantNone(i, bad)
			wantNone(bad, i)
			wantNone(bad, bad)
		}
	}
}

// P50
func TestOutputsOfPartiesRunAreCircuitRun(t *testing.T) {
	for _, e := range someExecutions(draws(50)) {
		run := wantRun(t, e)
		if want := circuitRun(t, e.c, e.ins); !slices.Equal(run.Outs, want) {
			t.Errorf("the outputs of PartiesRun of %v are %v, not %v", e, run.Outs, want)
		}
		for i, value := range circuitValues(t, e.c, e.ins) {
			for j, share := range run.Shares[i] {
				if share.X != j+1 {
					t.Errorf("PartiesRun of %v has the shares %v of gate %d", e, run.Shares[i], i)
				}
			}
			if p := polyThrough(t, run.Shares[i]); len(p) > e.bound+1 || polyAt(t, p, 0) != value {
				t.Errorf("PartiesRun of %v has shares of gate %d by %v, whose value is %d", e, i, p, value)
			}
		}
	}
}

// P50: each share is as the chapter says, so that the tape is taken in its order.
func TestPartiesRunTakesTheTapeInOrder(t *testing.T) {
	for _, e := range someExecutions(draws(500)) {
		if run, want := wantRun(t, e), e.reckoned(); !sameRun(run, want) {
			t.Errorf("PartiesRun of %v is %v, not %v", e, run, want)
		}
	}
}

// P50, with answers reckoned by hand.
func TestPartiesRunReckonedByHand(t *testing.T) {
	product := circuit(2, []int{2}, gateInput(0), gateInput(1), gateMul(0, 1))
	for _, c := range []struct {
		e    execution
		want [][]int // the Y of each gate
	}{
		{execution{product, []int{3, 5}, 1, 0, nil}, [][]int{{3}, {5}, {15}}},
		{execution{product, []int{112, 112}, 3, 0, []int{9}}, [][]int{{112, 112, 112}, {112, 112, 112}, {1, 1, 1}}},
		// 3 + x and 5 + 2*x; the parties have the products 28, 45 and 66, and give out 28 + 3*x, 45 + 4*x and 66 + 5*x. With the weights 3, 110 and 1 that is 15 + 2*x.
		{execution{product, []int{3, 5}, 3, 1, []int{1, 2, 3, 4, 5}}, [][]int{{4, 5, 6}, {7, 9, 11}, {17, 19, 21}}},
		// A fourth party draws too, but what it gives out does not count.
		{execution{product, []int{3, 5}, 4, 1, []int{1, 2, 3, 4, 5, 100}}, [][]int{{4, 5, 6, 7}, {7, 9, 11, 13}, {17, 19, 21, 23}}},
		{execution{circuit(1, []int{2}, gateInput(0), gateConst(112), gateSub(1, 0), gateAdd(2, 2)), []int{0}, 3, 1, []int{10}}, [][]int{{10, 20, 30}, {112, 112, 112}, {102, 92, 82}, {91, 71, 51}}},
		{execution{circuit(1, []int{1}, gateInput(0), gateInput(0)), []int{7}, 5, 2, []int{1, 0, 0, 1}}, [][]int{{8, 9, 10, 11, 12}, {8, 11, 16, 23, 32}}}, // one input, given out twice
	} {
		run := wantRun(t, c.e)
		for i, ys := range c.want {
			for j, y := range ys {
				if got := run.Shares[i][j]; got != (impl.Point{X: j + 1, Y: y}) {
					t.Errorf("PartiesRun of %v has the share %v of gate %d, not %d", c.e, got, i, y)
				}
			}
		}
	}
}

// P50: numbers of the tape behind those that are needed do not count.
func TestPartiesRunNeedsNoMoreOfTheTape(t *testing.T) {
	draw := draws(501)
	parties(func(n, bound int) {
		e := execution{mixedCircuit(), drawnList(draw, 2), n, bound, drawnList(draw, 800)}
		need := needReckoned(e.c, n, bound)
		want := wantRun(t, e)
		for _, behind := range [][]int{nil, {0}, {112}, drawnList(draw, 800-need)} {
			other := e
			other.tape = append(slices.Clone(e.tape[:need]), behind...)
			if run := wantRun(t, other); !sameRun(run, want) {
				t.Errorf("PartiesRun of %v is %v, and of %v %v", e, want, other, run)
			}
		}
	})
}

// P50: of inputs that do not fit, and of tapes that are too short, too long, or have one that is no number, be it needed or not.
func TestPartiesRunIsToldJustOfInputsAndTapes(t *testing.T) {
	for _, c := range []impl.Circuit{mixedCircuit(), circuit(1, []int{0}, gateInput(0)), circuit(6, []int{0}, gateConst(3))} {
		parties(func(n, bound int) {
			ins, need := make([]int, c.Inputs), needReckoned(c, n, bound)
			for _, bad := range notLists(c.Inputs) {
				wantNoRun(t, execution{c, bad, n, bound, make([]int, need)})
			}
			wantNoRun(t, execution{c, nil, n, bound, make([]int, need)})
			wantRun(t, execution{c, ins, n, bound, make([]int, need)})
			for _, length := range []int{need - 1, need - bound, 0} {
				if 0 <= length && length < need {
					wantNoRun(t, execution{c, ins, n, bound, make([]int, length)})
				}
			}
			for _, length := range []int{801, 802, 100000} {
				wantNoRun(t, execution{c, ins, n, bound, make([]int, length)})
			}
			for _, length := range []int{need, need + 1, 800} {
				for _, place := range []int{0, need / 2, need - 1, need, length - 1} {
					for _, bad := range extremes() {
						tape := make([]int, length)
						if 0 <= place && place < length {
							tape[place] = bad
							wantNoRun(t, execution{c, ins, n, bound, tape})
						}
					}
				}
			}
		})
	}
}

// P51
func TestPartiesSeenHasANumberForEachGate(t *testing.T) {
	for _, e := range someExecutions(draws(51)) {
		run := wantRun(t, e)
		for party := 1; party <= e.n; party++ {
			seen := wantList(t, "PartiesSeen", impl.PartiesSeen(run, party), true, len(e.c.Gates))
			for i, y := range seen {
				if y != run.Shares[i][party-1].Y {
					t.Errorf("PartiesSeen of %v and party %d is %v", run, party, seen)
				}
			}
		}
		for _, place := range append(extremes(), 0, e.n+1, e.n+2, 17) {
			if place > e.n || place < 1 {
				wantSeen(t, run, place)
			}
		}
	}
}

// wantSeen fails the test unless PartiesSeen of a run and a place tells these numbers.
func wantSeen(t *testing.T, run impl.Run, place int, want ...int) {
	t.Helper()
	if got := impl.PartiesSeen(run, place); !slices.Equal(got, want) {
		t.Errorf("PartiesSeen(%v, %d) is %v, not %v", run, place, got, want)
	}
}

// P51: of runs of any kind: just the place counts, not the X, the outputs, how many gates there are, or what else a gate has.
func TestPartiesSeenOfAnyRun(t *testing.T) {
	uneven := impl.Run{Shares: [][]impl.Point{{{X: 1, Y: 5}, {X: 2, Y: 6}, {X: 3, Y: 7}}, {{X: 9, Y: 8}, {X: 0, Y: 0}}, {{X: 2, Y: 112}, {X: 1, Y: 1}, {X: 3, Y: 3}, {X: 4, Y: 4}}}}
	wantSeen(t, uneven, 1, 5, 8, 112)
	wantSeen(t, uneven, 2, 6, 0, 1)
	wantSeen(t, impl.Run{Shares: [][]impl.Point{{{X: 1, Y: 5}, {X: 2, Y: 6}}, {{X: 1, Y: 5}}}}, 2) // the last gate has fewer
	wantSeen(t, impl.Run{Shares: [][]impl.Point{{{X: 1, Y: 5}}, {{X: 1, Y: 5}, {X: 2, Y: 6}}}}, 2) // the first one
	wantSeen(t, impl.Run{Shares: [][]impl.Point{{{X: 1, Y: 5}}, nil}}, 1)
	wantSeen(t, impl.Run{Shares: [][]impl.Point{nil}}, 1)
	wantSeen(t, impl.Run{Shares: [][]impl.Point{sharesReckoned(giving{3, 20, nil})}, Outs: []int{1}}, 20, 3)
	wantSeen(t, impl.Run{Shares: slices.Repeat([][]impl.Point{{{X: 1, Y: 6}}}, 40)}, 1, slices.Repeat([]int{6}, 40)...)
	for _, place := range append(extremes(), 0, 1, 2, 3, 4, 5) {
		if place < 1 || place > 2 {
			wantSeen(t, uneven, place)
		}
		wantSeen(t, impl.Run{}, place)
		wantSeen(t, impl.Run{Outs: []int{1, 2}}, place)
	}
}

// P52: each choice of shares of an output is changed.
func TestSharesMendOfAnOutputIsTheOutput(t *testing.T) {
	draw := draws(52)
	circuits := []impl.Circuit{mixedCircuit(), productsCircuit(), drawnCircuit(draw, 6, 16, 16), drawnCircuit(draw, 1, 5, 2), circuit(1, []int{0}, gateConst(112))}
	parties(func(n, bound int) {
		for _, c := range circuits {
			run := wantRun(t, execution{c, drawnList(draw, c.Inputs), n, bound, drawnList(draw, 800)})
			for i, out := range c.Outs {
				for changed := range 1 << n {
					list := slices.Clone(run.Shares[out])
					want := mended{run.Outs[i], nil, true}
					for j := range list {
						if changed>>j&1 == 1 {
							list[j].Y = (list[j].Y + 1 + draw(112)) % 113
							want.wrong = append(want.wrong, j+1)
						}
					}
					if len(want.wrong) > mostReckoned(n, bound) {
						continue
					}
					if got := sharesMend(list, bound); !got.equal(want) {
						t.Errorf("SharesMend(%v, %d) of output %d of %v is %v, not %v", list, bound, i, c, got, want)
					}
				}
			}
		}
	})
}

// P48 to P52: the general rules on memory. Each function is called twice, so that both results are held against each other.
func TestPartiesOwnTheirMemory(t *testing.T) {
	draw := draws(520)
	var list []execution
	parties(func(n, bound int) {
		c := drawnCircuit(draw, 1+draw(6), 1+draw(16), 1+draw(16))
		list = append(list, execution{mixedCircuit(), drawnList(draw, 2), n, bound, drawnList(draw, 100)},
			execution{c, drawnList(draw, c.Inputs), n, bound, drawnList(draw, needReckoned(c, n, bound))},
			execution{c, drawnList(draw, c.Inputs), n, bound + 4, drawnList(draw, 800)})
	})
	for _, e := range list {
		e.c, e.ins, e.tape = circuitWithSpare(e.c), withSpare(e.ins), withSpare(e.tape)
		lists := [][]int{e.ins, e.tape, e.c.Outs}
		outs := func() [][]int {
			first, _ := e.run()
			second, _ := e.run()
			return [][]int{first.Outs, second.Outs}
		}
		shares := func() [][]impl.Point {
			first, _ := e.run()
			second, _ := e.run()
			return slices.Concat(first.Shares, second.Shares)
		}
		mark := impl.Point{X: spare - 1, Y: spare - 1}
		wantOwnMemoryOf(t, "PartiesRun", lists, spare-1, outs)
		wantOwnMemoryOf(t, "PartiesRun", lists, mark, shares)
		wantOwnMemoryOf(t, "PartiesRun", [][]impl.Gate{e.c.Gates}, spare-1, outs)
		wantOwnMemoryOf(t, "PartiesRun", [][]impl.Gate{e.c.Gates}, mark, shares)
		wantOwnMemoryOf(t, "PartiesNeed", [][]impl.Gate{e.c.Gates}, spare-1, func() [][]int {
			return [][]int{{impl.PartiesNeed(e.c, e.n, e.bound)}}
		})
		wantListsOfSharesApart(t, e)
		wantSeenKept(t, e)
	}
}

// wantListsOfSharesApart fails the test if two runs of an execution keep their lists of shares in the same memory.
func wantListsOfSharesApart(t *testing.T, e execution) {
	t.Helper()
	first, ok := e.run()
	second, _ := e.run()
	room := second.Shares[:cap(second.Shares)]
	for i := range room {
		room[i] = nil
	}
	if ok && !sameRun(first, e.reckoned()) {
		t.Errorf("two runs of %v share memory", e)
	}
}

// wantSeenKept fails the test if PartiesSeen of a run does not keep the rules on memory.
func wantSeenKept(t *testing.T, e execution) {
	t.Helper()
	run, _ := e.run()
	for i, list := range run.Shares {
		run.Shares[i] = withRoom(list, impl.Point{X: spare, Y: spare})
	}
	lists := slices.Clone(run.Shares)
	seen := func() [][]int {
		return [][]int{impl.PartiesSeen(run, 1), impl.PartiesSeen(run, 1), impl.PartiesSeen(run, e.n+1)}
	}
	wantOwnMemoryOf(t, "PartiesSeen", run.Shares, spare-1, seen)
	run.Outs = withSpare(run.Outs)
	wantOwnMemory(t, "PartiesSeen", [][]int{run.Outs}, seen)
	if !sameLists(run.Shares, lists) {
		t.Errorf("PartiesSeen changes the shares %v to %v", lists, run.Shares)
	}
}

// P50: what was told before does not count, nor what is told at the same time.
func TestPartiesKeepNoState(t *testing.T) {
	var together sync.WaitGroup
	for part := range 4 {
		together.Add(1)
		go func() {
			defer together.Done()
			list := someExecutions(draws(uint32(521 + part%2)))[:400]
			var before []impl.Run
			for _, e := range list {
				run, _ := e.run()
				before = append(before, run)
			}
			for i := len(list) - 1; i >= 0; i-- {
				if run, ok := list[i].run(); !ok || !sameRun(run, before[i]) {
					t.Errorf("PartiesRun of %v is %v, and %v before", list[i], run, before[i])
				}
			}
		}()
	}
	together.Wait()
}

// P50: no goroutine is left behind. One that has been joined may take a moment to be gone.
func TestPartiesLeaveNoGoroutine(t *testing.T) {
	before := runtime.NumGoroutine()
	draw := draws(522)
	parties(func(n, bound int) {
		for range 10 {
			e := execution{productsCircuit(), drawnList(draw, 1), n, bound, drawnList(draw, 800)}
			wantRun(t, e)
			e.tape[0] = 113
			wantNoRun(t, e)
		}
	})
	for range 1000 {
		if runtime.NumGoroutine() <= before {
			return
		}
		time.Sleep(time.Millisecond)
	}
	t.Errorf("there are %d goroutines, and %d before", runtime.NumGoroutine(), before)
}
