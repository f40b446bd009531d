package tests

import (
	"fmt"
	"slices"
	"sync"
	"testing"

	"loop.example/underveil/impl"
)

// accessing is an access to what is kept, and the new leaf of the cell.
type accessing struct {
	h    impl.Hidden
	a    impl.Access
	leaf int
}

// accessed is what comes of it.
type accessed struct {
	h           impl.Hidden
	value, leaf int
}

func read(cell int) impl.Access { return impl.Access{Cell: cell} }

func write(cell, value int) impl.Access { return impl.Access{Write: true, Cell: cell, Value: value} }

// wayReckoned reckons the nodes from a leaf to the root: node n is below the node (n-1)/2, rounded down.
func wayReckoned(leaf int) []int {
	way := []int{3 + leaf}
	for way[0] > 0 {
		way = append([]int{(way[0] - 1) / 2}, way...)
	}
	return reversed(way)
}

// emptyHidden returns what is kept if there are no places.
func emptyHidden(leaves ...int) impl.Hidden {
	return impl.Hidden{Nodes: make([][]impl.Place, 7), Leaves: slices.Clone(leaves)}
}

// cloned returns a copy, so that a place of it can be changed.
func cloned(h impl.Hidden) impl.Hidden {
	h.Nodes, h.Stash, h.Leaves = slices.Clone(h.Nodes), slices.Clone(h.Stash), slices.Clone(h.Leaves)
	for node, places := range h.Nodes {
		h.Nodes[node] = slices.Clone(places)
	}
	return h
}

// everywhere returns all lists of places: those of the nodes, and the stash.
func everywhere(h impl.Hidden) [][]impl.Place {
	return append(slices.Clone(h.Nodes), h.Stash)
}

func sameHidden(a, b impl.Hidden) bool {
	return sameLists(a.Nodes, b.Nodes) && slices.Equal(a.Stash, b.Stash) && slices.Equal(a.Leaves, b.Leaves)
}

// reckoned reckons what comes of an access to what is ok.
func (x accessing) reckoned() accessed {
	h := cloned(x.h)
	told := accessed{leaf: h.Leaves[x.a.Cell]}
	way := wayReckoned(told.leaf)
	for _, node := range reversed(way) {
		h.Stash = append(h.Stash, h.Nodes[node]...)
		h.Nodes[node] = nil
	}
	h.Leaves[x.a.Cell] = x.leaf
	isIts := func(place impl.Place) bool { return place.Cell == x.a.Cell }
	if i := slices.IndexFunc(h.Stash, isIts); i >= 0 {
		told.value = h.Stash[i].Value
		h.Stash[i].Leaf = x.leaf
		if x.a.Write {
			h.Stash[i].Value = x.a.Value
		}
	} else if x.a.Write {
		h.Stash = append(h.Stash, impl.Place{Cell: x.a.Cell, Leaf: x.leaf, Value: x.a.Value})
	}
	for _, node := range way {
		for i := 0; i < len(h.Stash); {
			place := h.Stash[i]
			if len(h.Nodes[node]) == 3 || !slices.Contains(wayReckoned(place.Leaf), node) {
				i++
				continue
			}
			h.Nodes[node] = append(h.Nodes[node], place)
			h.Stash = slices.Delete(h.Stash, i, i+1)
		}
	}
	told.h = h
	return told
}

// drawnLeaves returns the leaves of eight cells, drawn from the first ones.
func drawnLeaves(draw func(int) int, most int) []int {
	leaves := make([]int, 8)
	for i := range leaves {
		leaves[i] = draw(most)
	}
	return leaves
}

// drawnCells returns all cells, in no order.
func drawnCells(draw func(int) int) []int {
	cells := []int{0, 1, 2, 3, 4, 5, 6, 7}
	for i := range cells {
		j := i + draw(8-i)
		cells[i], cells[j] = cells[j], cells[i]
	}
	return cells
}

// drawnHidden returns what is ok, with leaves that are given: each cell has its place anywhere that there is room for it, or none if some are missing.
func drawnHidden(draw func(int) int, leaves []int, missing bool) impl.Hidden {
	h := emptyHidden(leaves...)
	for _, cell := range drawnCells(draw) {
		place := impl.Place{Cell: cell, Leaf: leaves[cell], Value: draw(113) * min(draw(4), 1)}
		way := wayReckoned(place.Leaf)
		where := draw(5)
		switch {
		case where == 4 && missing:
		case where < 3 && len(h.Nodes[way[where]]) < 3:
			h.Nodes[way[where]] = append(h.Nodes[way[where]], place)
		default:
			h.Stash = append(h.Stash, place)
		}
	}
	return h
}

// onOneWay returns what is ok, with all cells having one leaf: so many places of the nodes from the leaf to the root are taken, by cells in no order, and the other cells have places in the stash.
func onOneWay(draw func(int) int, leaf int, taken ...int) impl.Hidden {
	h := emptyHidden(slices.Repeat([]int{leaf}, 8)...)
	for _, cell := range drawnCells(draw) {
		h.Stash = append(h.Stash, impl.Place{Cell: cell, Leaf: leaf, Value: draw(113)})
	}
	for i, node := range wayReckoned(leaf) {
		h.Nodes[node], h.Stash = slices.Clone(h.Stash[:taken[i]]), h.Stash[taken[i]:]
	}
	return h
}

// fullWays returns what is ok, with ways all of whose nodes are as full as eight cells can make them, with full nodes while there are places in the stash, and with all places in the stash.
func fullWays(draw func(int) int) []impl.Hidden {
	var list []impl.Hidden
	for leaf := range 4 {
		for _, taken := range [][]int{{3, 3, 2}, {3, 2, 3}, {2, 3, 3}, {3, 3, 0}, {3, 0, 3}, {0, 3, 3}, {3, 0, 0}, {0, 3, 0}, {0, 0, 3}, {1, 1, 1}, {0, 0, 0}} {
			list = append(list, onOneWay(draw, leaf, taken...))
		}
	}
	return list
}

// someHidden returns what is ok: without places, with full ways, and with places anywhere, if all cells have one leaf, two, and more.
func someHidden(draw func(int) int) []impl.Hidden {
	list := append(fullWays(draw), emptyHidden(0, 1, 2, 3, 0, 1, 2, 3))
	for leaf := range 4 {
		list = append(list, emptyHidden(slices.Repeat([]int{leaf}, 8)...))
	}
	for most := 1; most <= 4; most++ {
		for range 25 {
			list = append(list, emptyHidden(drawnLeaves(draw, most)...), drawnHidden(draw, drawnLeaves(draw, most), true), drawnHidden(draw, drawnLeaves(draw, most), false))
		}
	}
	return list
}

// someAccesses returns accesses to what is kept: reads of each cell, and writes of 0, the greatest number, the value that is there and a drawn one.
func someAccesses(draw func(int) int, h impl.Hidden) []impl.Access {
	var list []impl.Access
	for cell := range 8 {
		list = append(list, read(cell), write(cell, 0), write(cell, 112), write(cell, draw(113)))
	}
	for _, places := range everywhere(h) {
		for _, place := range places {
			list = append(list, write(place.Cell, place.Value))
		}
	}
	return list
}

// notAccesses returns what are no accesses.
func notAccesses() []impl.Access {
	var list []impl.Access
	for _, bad := range append(extremes(), 8, 9, 16) {
		list = append(list, read(bad), write(bad, 5))
	}
	for _, bad := range notNumbers() {
		list = append(list, write(3, bad), impl.Access{Cell: 3, Value: bad})
	}
	for value := 1; value <= 112; value++ {
		list = append(list, impl.Access{Cell: value % 8, Value: value})
	}
	return list
}

// notLeaves returns what are no leaves.
func notLeaves() []int {
	return append(extremes(), 4, 5, 7, 8, -2, -4)
}

// brokenPlaces returns what becomes of what is ok if one place is not: a cell that there is not, or that has a place elsewhere, a leaf that is not the cell's, or what is no number.
func brokenPlaces(h impl.Hidden) []impl.Hidden {
	var list []impl.Hidden
	for node, places := range everywhere(h) {
		for i, place := range places {
			change := func(to impl.Place) {
				broken := cloned(h)
				everywhere(broken)[node][i] = to
				list = append(list, broken)
			}
			for _, bad := range append(extremes(), 8, 9) {
				change(impl.Place{Cell: bad, Leaf: place.Leaf, Value: place.Value})
			}
			for _, bad := range notLeaves() {
				change(impl.Place{Cell: place.Cell, Leaf: bad, Value: place.Value})
			}
			for _, bad := range extremes() {
				change(impl.Place{Cell: place.Cell, Leaf: place.Leaf, Value: bad})
			}
			for more := 1; more < 4; more++ {
				change(impl.Place{Cell: place.Cell, Leaf: (place.Leaf + more) % 4, Value: place.Value})
			}
			for _, others := range everywhere(h) {
				for _, other := range others {
					if other.Cell != place.Cell && other.Leaf == place.Leaf {
						change(impl.Place{Cell: other.Cell, Leaf: other.Leaf, Value: place.Value})
					}
				}
			}
		}
	}
	return list
}

// brokenLists returns what becomes of what is ok if there are more or fewer nodes or leaves, a leaf that there is not, or a place twice.
func brokenLists(h impl.Hidden) []impl.Hidden {
	nodes := func(nodes ...[]impl.Place) impl.Hidden {
		return impl.Hidden{Nodes: nodes, Stash: h.Stash, Leaves: h.Leaves}
	}
	leaves := func(leaves ...int) impl.Hidden {
		return impl.Hidden{Nodes: h.Nodes, Stash: h.Stash, Leaves: leaves}
	}
	list := []impl.Hidden{nodes(), nodes(h.Nodes[:3]...), nodes(h.Nodes[:6]...), nodes(append(cloned(h).Nodes, nil)...), nodes(append(cloned(h).Nodes, cloned(h).Nodes...)...),
		leaves(), leaves(h.Leaves[:7]...), leaves(append(slices.Clone(h.Leaves), 0)...), leaves(append(slices.Clone(h.Leaves), 4)...), leaves(slices.Repeat(h.Leaves, 2)...)}
	for cell := range 8 {
		for _, bad := range notLeaves() {
			broken := cloned(h)
			broken.Leaves[cell] = bad
			list = append(list, broken)
		}
	}
	for _, place := range slices.Concat(everywhere(h)...) {
		broken := cloned(h)
		broken.Stash = append(broken.Stash, place)
		list = append(list, broken)
		for _, node := range wayReckoned(place.Leaf) {
			broken := cloned(h)
			broken.Nodes[node] = append(broken.Nodes[node], place)
			list = append(list, broken)
		}
	}
	return list
}

// besideTheWay returns what would be ok, but for one place that is in a node beside the way of its leaf.
func besideTheWay() []impl.Hidden {
	var list []impl.Hidden
	for leaf := range 4 {
		for node := range 7 {
			if !slices.Contains(wayReckoned(leaf), node) {
				h := emptyHidden(leaf, 0, 1, 2, 3, 0, 1, leaf)
				h.Nodes[node] = []impl.Place{{Cell: 7, Leaf: leaf, Value: 5}}
				list = append(list, h)
			}
		}
	}
	return list
}

// tooMany returns what would be ok, but for a node of four places, a way of nine, or a stash of nine.
func tooMany(draw func(int) int) []impl.Hidden {
	var list []impl.Hidden
	for leaf := range 4 {
		for i := range 3 {
			taken := []int{0, 0, 0}
			for taken[i] = 4; taken[i] <= 8; taken[i]++ {
				list = append(list, onOneWay(draw, leaf, taken...))
			}
		}
		full := onOneWay(draw, leaf, 3, 3, 2)
		for _, cell := range []int{-1, 0, 3, 7, 8} {
			h := cloned(full)
			h.Nodes[0] = append(h.Nodes[0], impl.Place{Cell: cell, Leaf: leaf, Value: 5})
			list = append(list, h)
			h = onOneWay(draw, leaf, 0, 0, 0)
			h.Stash = append(h.Stash, impl.Place{Cell: cell, Leaf: leaf, Value: 5})
			list = append(list, h)
		}
	}
	return append(list, impl.Hidden{Nodes: make([][]impl.Place, 7), Stash: make([]impl.Place, 1000), Leaves: make([]int, 8)},
		impl.Hidden{Nodes: slices.Repeat([][]impl.Place{make([]impl.Place, 1000)}, 7), Leaves: make([]int, 8)},
		impl.Hidden{Nodes: make([][]impl.Place, 1000), Leaves: make([]int, 8)},
		impl.Hidden{Nodes: make([][]impl.Place, 7), Leaves: make([]int, 1000)})
}

// notHidden returns what is not ok.
func notHidden(draw func(int) int) []impl.Hidden {
	list := slices.Concat([]impl.Hidden{{}, {Nodes: [][]impl.Place{}, Stash: []impl.Place{}, Leaves: []int{}}}, besideTheWay(), tooMany(draw), brokenLists(emptyHidden(0, 1, 2, 3, 0, 1, 2, 3)))
	for most := 1; most <= 4; most++ {
		for _, missing := range []bool{true, false} {
			h := drawnHidden(draw, drawnLeaves(draw, most), missing)
			list = append(list, brokenPlaces(h)...)
			list = append(list, brokenLists(h)...)
		}
	}
	return list
}

// do is what HiddenDo tells; the test fails if it is not as it is reckoned, or not ok.
func (x accessing) do(t *testing.T) accessed {
	t.Helper()
	h, value, leaf, ok := impl.HiddenDo(x.h, x.a, x.leaf)
	want := x.reckoned()
	if !ok || !sameHidden(h, want.h) || value != want.value || leaf != want.leaf || !impl.HiddenOk(h) {
		t.Fatalf("HiddenDo(%v, %v, %d) is %v, %d, %d, %v, not %v", x.h, x.a, x.leaf, h, value, leaf, ok, want)
	}
	return accessed{h, value, leaf}
}

// wantNotDone fails the test unless HiddenDo tells nothing.
func wantNotDone(t *testing.T, x accessing) {
	t.Helper()
	h, value, leaf, ok := impl.HiddenDo(x.h, x.a, x.leaf)
	if ok || value != 0 || leaf != 0 || len(h.Nodes) != 0 || len(h.Stash) != 0 || len(h.Leaves) != 0 {
		t.Errorf("HiddenDo(%v, %v, %d) is %v, %d, %d, %v, not zero values and false", x.h, x.a, x.leaf, h, value, leaf, ok)
	}
}

// P78: the stash never gets too full, as the root takes three of eight places.
func TestHiddenDoOfAReadIsToldJustOfWhatIsOk(t *testing.T) {
	draw := draws(78)
	for _, h := range someHidden(draw) {
		if !impl.HiddenOk(h) {
			t.Fatalf("HiddenOk(%v) is false", h)
		}
		for leaf := range 4 {
			if told := (accessing{h, read(0), leaf}).do(t); len(told.h.Stash) > 5 {
				t.Errorf("HiddenDo of %v leaves %v", h, told.h)
			}
		}
	}
	for _, bad := range notHidden(draw) {
		if impl.HiddenOk(bad) {
			t.Errorf("HiddenOk(%v) is true", bad)
		}
		for leaf := range 4 {
			wantNotDone(t, accessing{bad, read(0), leaf})
		}
		wantNotDone(t, accessing{bad, read(7), 0})
		wantNotDone(t, accessing{bad, write(7, 5), 3})
	}
}

// P78: each number may be at a place, in each node and in the stash.
func TestHiddenOkOfEachNumber(t *testing.T) {
	for _, value := range allNumbers() {
		for leaf := range 4 {
			place := impl.Place{Cell: value % 8, Leaf: leaf, Value: value}
			h := emptyHidden(slices.Repeat([]int{leaf}, 8)...)
			h.Stash = []impl.Place{place}
			if !impl.HiddenOk(h) {
				t.Errorf("HiddenOk(%v) is false", h)
			}
			for node := range 7 {
				h := emptyHidden(slices.Repeat([]int{leaf}, 8)...)
				h.Nodes[node] = []impl.Place{place}
				if want := slices.Contains(wayReckoned(leaf), node); impl.HiddenOk(h) != want {
					t.Errorf("HiddenOk(%v) is not %v", h, want)
				}
			}
		}
	}
}

// P78: of accesses that are not valid, and leaves that there are not.
func TestHiddenDoIsToldJustOfAccesses(t *testing.T) {
	draw := draws(780)
	for _, h := range append(fullWays(draw)[:12], emptyHidden(0, 1, 2, 3, 0, 1, 2, 3), drawnHidden(draw, drawnLeaves(draw, 4), false)) {
		for leaf := range 4 {
			for _, bad := range notAccesses() {
				wantNotDone(t, accessing{h, bad, leaf})
			}
		}
		for _, bad := range notLeaves() {
			wantNotDone(t, accessing{h, read(0), bad})
			wantNotDone(t, accessing{h, write(7, 112), bad})
			wantNotDone(t, accessing{h, read(8), bad})
		}
	}
}

// P79: and further numbers of the tape do not count.
func TestHiddenNewIsOk(t *testing.T) {
	draw := draws(79)
	for most := 1; most <= 4; most++ {
		for range 50 {
			leaves := drawnLeaves(draw, most)
			for _, behind := range [][]int{nil, {0}, {3, 2, 1}, {4}, {-1, 113}, extremes(), make([]int, 1000)} {
				h, ok := impl.HiddenNew(append(slices.Clone(leaves), behind...))
				if !ok || !impl.HiddenOk(h) || !sameHidden(h, emptyHidden(leaves...)) {
					t.Errorf("HiddenNew of %v with %v behind is %v, %v", leaves, behind, h, ok)
				}
			}
		}
	}
}

// P79: of a tape that is too short, and of what are no leaves.
func TestHiddenNewIsToldJustOfTapes(t *testing.T) {
	wantNone := func(tape []int) {
		t.Helper()
		h, ok := impl.HiddenNew(tape)
		if ok || len(h.Nodes) != 0 || len(h.Stash) != 0 || len(h.Leaves) != 0 {
			t.Errorf("HiddenNew(%v) is %v, %v, not nothing and false", tape, h, ok)
		}
	}
	wantNone(nil)
	for n := range 8 {
		wantNone(make([]int, n))
		wantNone(slices.Repeat([]int{3}, n))
		for _, bad := range notLeaves() {
			for _, long := range []int{8, 9, 48} {
				tape := slices.Repeat([]int{3}, long)
				tape[n] = bad
				wantNone(tape)
			}
		}
	}
}

// P80
func TestHiddenDoIsOkAndAReadBehindItFindsTheNewValue(t *testing.T) {
	draw := draws(80)
	for _, h := range someHidden(draw) {
		for _, a := range someAccesses(draw, h) {
			for leaf := range 4 {
				told := accessing{h, a, leaf}.do(t)
				if told.leaf != h.Leaves[a.Cell] || told.h.Leaves[a.Cell] != leaf {
					t.Errorf("HiddenDo(%v, %v, %d) reads leaf %d and tells %v", h, a, leaf, told.leaf, told.h)
				}
				want := told.value
				if a.Write {
					want = a.Value
				}
				if again := (accessing{told.h, read(a.Cell), draw(4)}).do(t); again.value != want || again.leaf != leaf {
					t.Errorf("behind HiddenDo(%v, %v, %d) a read finds %d, not %d, at leaf %d", h, a, leaf, again.value, want, again.leaf)
				}
			}
		}
	}
}

// P80: access by access, from one tree to the next one, with each cell's value kept whatever else is accessed.
func TestHiddenDoManyTimes(t *testing.T) {
	draw := draws(800)
	for most := 1; most <= 4; most++ {
		for range 20 {
			h := drawnHidden(draw, drawnLeaves(draw, most), true)
			values := [8]int{}
			for _, place := range slices.Concat(everywhere(h)...) {
				values[place.Cell] = place.Value
			}
			for range 60 {
				a := drawnAccess(draw)
				told := accessing{h, a, draw(most)}.do(t)
				if told.value != values[a.Cell] {
					t.Fatalf("HiddenDo(%v, %v) finds %d, not %d", h, a, told.value, values[a.Cell])
				}
				if a.Write {
					values[a.Cell] = a.Value
				}
				h = told.h
			}
		}
	}
}

// drawnAccess returns a read, or a write of a drawn number or of 0.
func drawnAccess(draw func(int) int) impl.Access {
	if draw(2) == 0 {
		return read(draw(8))
	}
	return write(draw(8), draw(113)*min(draw(3), 1))
}

// P78 and P80: eight cells cannot fill a way of three nodes with three places each; what would fill it is not ok, and with one place less it is read and written in order.
func TestHiddenDoOfAFullWay(t *testing.T) {
	draw := draws(801)
	for leaf := range 4 {
		way := wayReckoned(leaf)
		for _, taken := range [][]int{{3, 3, 2}, {3, 2, 3}, {2, 3, 3}} {
			h := onOneWay(draw, leaf, taken...)
			room := way[slices.Index(taken, 2)]
			for _, cell := range append(h.Leaves, 7, 8) {
				full := cloned(h)
				full.Nodes[room] = append(full.Nodes[room], impl.Place{Cell: cell, Leaf: leaf, Value: 5})
				if impl.HiddenOk(full) {
					t.Errorf("HiddenOk(%v) is true", full)
				}
				wantNotDone(t, accessing{full, read(0), 0})
			}
			order := slices.Concat(h.Nodes[way[2]], h.Nodes[way[1]], h.Nodes[way[0]])
			told := accessing{h, read(5), leaf}.do(t).h
			if got := slices.Concat(told.Nodes[way[0]], told.Nodes[way[1]], told.Nodes[way[2]]); !slices.Equal(got, order) || len(told.Nodes[way[2]]) != 2 || len(told.Stash) != 0 {
				t.Errorf("HiddenDo of %v is %v", h, told)
			}
		}
	}
}

// P80, with answers reckoned by hand: the order of places, by their cells, in the nodes and in the stash.
func TestHiddenDoReckonedByHand(t *testing.T) {
	at := func(leaves []int, stash []int, nodes map[int][]int) impl.Hidden {
		h := emptyHidden(leaves...)
		place := func(cell int) impl.Place { return impl.Place{Cell: cell, Leaf: leaves[cell], Value: 10 + cell} }
		for _, cell := range stash {
			h.Stash = append(h.Stash, place(cell))
		}
		for node, cells := range nodes {
			for _, cell := range cells {
				h.Nodes[node] = append(h.Nodes[node], place(cell))
			}
		}
		return h
	}
	same := []int{0, 0, 0, 0, 0, 0, 0, 0}
	mixed := []int{2, 3, 2, 0, 1, 2, 3, 0}
	type nodes = map[int][]int
	for _, c := range []struct {
		leaves, stash []int
		nodes         nodes
		cell, leaf    int
		left          []int
		now           nodes
	}{
		{same, []int{0, 1, 2, 3, 4}, nodes{0: {5}, 1: {6}, 3: {7}}, 0, 0, nil, nodes{3: {0, 1, 2}, 1: {3, 4, 5}, 0: {6, 7}}},
		{same, []int{0, 1, 2, 3, 4}, nodes{0: {5}, 1: {6}, 3: {7}}, 0, 1, nil, nodes{3: {1, 2, 3}, 1: {0, 4, 5}, 0: {6, 7}}},
		{same, []int{0, 1, 2, 3, 4}, nodes{0: {5}, 1: {6}, 3: {7}}, 0, 3, nil, nodes{3: {1, 2, 3}, 1: {4, 5, 6}, 0: {0, 7}}},
		{same, nil, nodes{0: {7, 6}, 1: {5, 4, 3}, 3: {2, 1, 0}}, 2, 0, nil, nodes{3: {7, 6, 5}, 1: {4, 3, 2}, 0: {1, 0}}},
		{same, nil, nodes{0: {7, 6}, 1: {5, 4, 3}, 3: {2, 1, 0}}, 2, 2, nil, nodes{3: {7, 6, 5}, 1: {4, 3, 1}, 0: {2, 0}}},
		{[]int{0, 3, 3, 3, 3, 3, 3, 3}, []int{1, 2, 3, 4, 5, 6, 7}, nil, 0, 0, []int{4, 5, 6, 7}, nodes{0: {1, 2, 3}}},
		{[]int{0, 3, 3, 3, 3, 3, 3, 3}, []int{0, 7, 6, 5, 4, 3, 2, 1}, nil, 0, 3, []int{5, 4, 3, 2, 1}, nodes{0: {0, 7, 6}}},
		{[]int{0, 3, 3, 3, 3, 3, 3, 3}, []int{7, 6, 5}, nodes{0: {0, 4, 3}, 2: {2}, 6: {1}}, 0, 3, []int{0, 4, 3}, nodes{0: {7, 6, 5}, 2: {2}, 6: {1}}},
		{mixed, []int{6, 4}, nodes{0: {1, 3, 0}, 2: {2}, 5: {5}, 3: {7}}, 2, 0, []int{}, nodes{0: {4, 3, 2}, 2: {6, 1}, 5: {0, 5}, 3: {7}}},
		{mixed, []int{6, 4}, nodes{0: {1, 3, 0}, 2: {2}, 5: {5}, 3: {7}}, 7, 2, []int{7}, nodes{0: {6, 1, 0}, 1: {4}, 2: {2}, 5: {5}, 3: {3}}},
	} {
		h := at(c.leaves, c.stash, c.nodes)
		after := slices.Clone(c.leaves)
		after[c.cell] = c.leaf
		want := at(after, c.left, c.now)
		value := 0
		for _, place := range slices.Concat(everywhere(h)...) {
			if place.Cell == c.cell {
				value = 10 + c.cell
			}
		}
		told := accessing{h, read(c.cell), c.leaf}.do(t)
		if !sameHidden(told.h, want) || told.value != value || told.leaf != c.leaves[c.cell] {
			t.Errorf("HiddenDo(%v, %v, %d) is %v, not %v", h, read(c.cell), c.leaf, told, want)
		}
	}
}

// P80, with answers reckoned by hand: a cell without a place gets one behind all others if it is written, and none if it is read.
func TestHiddenDoOfACellWithoutAPlace(t *testing.T) {
	h := emptyHidden(0, 0, 0, 0, 1, 2, 3, 3)
	h.Stash = []impl.Place{{Cell: 1, Value: 11}, {Cell: 7, Leaf: 3, Value: 17}}
	h.Nodes[3] = []impl.Place{{Cell: 3, Value: 13}, {Cell: 2, Value: 12}}
	moved := emptyHidden(0, 0, 0, 0, 1, 2, 3, 3)
	moved.Nodes[3] = []impl.Place{{Cell: 1, Value: 11}, {Cell: 3, Value: 13}, {Cell: 2, Value: 12}}
	moved.Nodes[0] = []impl.Place{{Cell: 7, Leaf: 3, Value: 17}}
	for _, value := range []int{-1, 0, 1, 112} { // -1: it is read
		for leaf := range 4 {
			want := cloned(moved)
			want.Leaves[0] = leaf
			a := read(0)
			if value >= 0 {
				a = write(0, value)
				node := 0 // the leaf is full
				if leaf < 2 {
					node = 1
				}
				want.Nodes[node] = append(want.Nodes[node], impl.Place{Cell: 0, Leaf: leaf, Value: value})
			}
			if told := (accessing{h, a, leaf}).do(t); !sameHidden(told.h, want) || told.value != 0 || told.leaf != 0 {
				t.Errorf("HiddenDo(%v, %v, %d) is %v, not %v", h, a, leaf, told, want)
			}
		}
	}
}

// running is accesses and the tape by which they are executed.
type running struct {
	list []impl.Access
	tape []int
}

// valuesReckoned reckons what is ahead of each access in a list of eight numbers.
func (r running) valuesReckoned() []int {
	cells := [8]int{}
	values := make([]int, len(r.list))
	for j, a := range r.list {
		values[j] = cells[a.Cell]
		if a.Write {
			cells[a.Cell] = a.Value
		}
	}
	return values
}

// slotsReckoned reckons which number of the tape each access reads: for each one, the last one before it to its cell is looked up.
func slotsReckoned(list []impl.Access) []int {
	slots := make([]int, len(list))
	for j, a := range list {
		slots[j] = a.Cell
		for before := range j {
			if list[before].Cell == a.Cell {
				slots[j] = 8 + before
			}
		}
	}
	return slots
}

// someLists returns no accesses, and up to 40 of them: drawn ones, to all cells in turn, and all to one cell.
func someLists(draw func(int) int) [][]impl.Access {
	list := [][]impl.Access{nil, {}}
	for n := 1; n <= 40; n++ {
		drawn, turn, one := make([]impl.Access, n), make([]impl.Access, n), make([]impl.Access, n)
		for j := range n {
			drawn[j] = drawnAccess(draw)
			turn[j] = write(j%8, j+1)
			one[j] = drawnAccess(draw)
			one[j].Cell = n % 8
		}
		list = append(list, drawn, turn, one)
	}
	return list
}

// someRunnings returns accesses with tapes of one leaf, of two, and of more, just as long as is needed, and longer.
func someRunnings(draw func(int) int) []running {
	var all []running
	for _, list := range someLists(draw) {
		for most := 1; most <= 4; most++ {
			for _, more := range []int{0, 1, 30, 1000} {
				tape := make([]int, 8+len(list)+more)
				for i := range tape {
					tape[i] = 3 - draw(most)
				}
				all = append(all, running{list, tape})
			}
		}
	}
	return all
}

// hiddenRun returns what HiddenRun tells; the test fails if it is not told.
func hiddenRun(t *testing.T, r running) ([]int, []int) {
	t.Helper()
	values, leaves, ok := impl.HiddenRun(r.list, r.tape)
	if !ok || len(leaves) != len(r.list) {
		t.Fatalf("HiddenRun(%v, %v) is %v, %v, %v", r.list, r.tape, values, leaves, ok)
	}
	return wantList(t, "HiddenRun", values, ok, len(r.list)), leaves
}

// P81: and both are those of HiddenNew and HiddenDo, one behind the other.
func TestTheValuesOfHiddenRun(t *testing.T) {
	for _, r := range someRunnings(draws(81)) {
		values, leaves := hiddenRun(t, r)
		if want := r.valuesReckoned(); !slices.Equal(values, want) {
			t.Errorf("HiddenRun(%v, %v) finds %v, not %v", r.list, r.tape, values, want)
		}
		h, _ := impl.HiddenNew(r.tape)
		for j, a := range r.list {
			told := accessing{h, a, r.tape[8+j]}.do(t)
			if told.value != values[j] || told.leaf != leaves[j] {
				t.Fatalf("HiddenRun(%v, %v) is %v and %v, and access %d finds %d at %d", r.list, r.tape, values, leaves, j, told.value, told.leaf)
			}
			h = told.h
		}
	}
}

// P81, with answers reckoned by hand.
func TestHiddenRunReckonedByHand(t *testing.T) {
	list := []impl.Access{read(4), write(4, 9), write(4, 9), write(7, 112), read(4), write(4, 0), read(7), read(4), write(0, 1), read(0)}
	tape := []int{0, 1, 2, 3, 1, 2, 3, 2, 3, 0, 1, 0, 2, 2, 3, 1, 3, 2}
	values, leaves := hiddenRun(t, running{list, tape})
	if want := []int{0, 0, 9, 0, 9, 9, 112, 0, 0, 1}; !slices.Equal(values, want) {
		t.Errorf("HiddenRun finds %v, not %v", values, want)
	}
	if want := []int{1, 3, 0, 2, 1, 2, 0, 2, 0, 3}; !slices.Equal(leaves, want) {
		t.Errorf("HiddenRun reads the leaves %v, not %v", leaves, want)
	}
	if got, want := impl.HiddenSlots(list), []int{4, 8, 9, 7, 10, 12, 11, 13, 0, 16}; !slices.Equal(got, want) {
		t.Errorf("HiddenSlots is %v, not %v", got, want)
	}
}

// P81: of too many accesses, of tapes that are too short or have what is no leaf, and of accesses that are not valid.
func TestHiddenRunIsToldJustOfAccesses(t *testing.T) {
	draw := draws(810)
	wantNone := func(list []impl.Access, tape []int) {
		t.Helper()
		values, leaves, ok := impl.HiddenRun(list, tape)
		if ok || len(values) != 0 || len(leaves) != 0 {
			t.Errorf("HiddenRun(%v, %v) is %v, %v, %v, not nothing and false", list, tape, values, leaves, ok)
		}
	}
	for _, n := range []int{41, 42, 1000} {
		wantNone(make([]impl.Access, n), make([]int, n+8))
		wantNone(make([]impl.Access, n), make([]int, 2000))
	}
	for _, list := range someLists(draw) {
		n := len(list)
		for _, long := range []int{0, 1, 7, n, n + 7} {
			if long < n+8 {
				wantNone(list, make([]int, long))
				wantNone(list, slices.Repeat([]int{3}, long))
			}
		}
		wantNone(list, nil)
		for _, more := range []int{0, 1, 5} {
			for i := range n + 8 + more {
				bad := notLeaves()
				tape := slices.Repeat([]int{2}, n+8+more)
				tape[i] = bad[draw(len(bad))]
				wantNone(list, tape)
			}
		}
	}
	for _, bad := range notAccesses() {
		for _, n := range []int{1, 2, 40} {
			for _, i := range []int{0, n / 2, n - 1} {
				list := make([]impl.Access, n)
				list[i] = bad
				wantNone(list, make([]int, n+8))
			}
		}
	}
}

// P82
func TestAllOfHiddenSlotsAreDifferent(t *testing.T) {
	for _, list := range someLists(draws(82)) {
		slots := impl.HiddenSlots(list)
		if want := slotsReckoned(list); !slices.Equal(slots, want) {
			t.Errorf("HiddenSlots(%v) is %v, not %v", list, slots, want)
		}
		sorted := slices.Clone(slots)
		slices.Sort(sorted)
		if len(slices.Compact(sorted)) != len(list) {
			t.Errorf("HiddenSlots(%v) is %v: not all are different", list, slots)
		}
	}
}

// P82: of too many accesses, and of cells that there are not. The sentence does not ask for values that are numbers.
func TestHiddenSlotsIsToldJustOfCells(t *testing.T) {
	for _, n := range []int{41, 42, 1000} {
		if got := impl.HiddenSlots(make([]impl.Access, n)); len(got) != 0 {
			t.Errorf("HiddenSlots of %d accesses is %v", n, got)
		}
	}
	for _, n := range []int{1, 2, 8, 40} {
		for i := range n {
			for _, bad := range append(extremes(), 8, 9, 16, 48) {
				list := make([]impl.Access, n)
				list[i].Cell = bad
				if got := impl.HiddenSlots(list); len(got) != 0 {
					t.Errorf("HiddenSlots(%v) is %v", list, got)
				}
			}
			for _, bad := range extremes() {
				list := make([]impl.Access, n)
				list[i] = impl.Access{Write: bad%2 == 0, Cell: i % 8, Value: bad}
				if got, want := impl.HiddenSlots(list), slotsReckoned(list); !slices.Equal(got, want) {
					t.Errorf("HiddenSlots(%v) is %v, not %v", list, got, want)
				}
			}
		}
	}
}

// P83
func TestTheLeavesOfHiddenRunAreOfTheTape(t *testing.T) {
	for _, r := range someRunnings(draws(83)) {
		_, leaves := hiddenRun(t, r)
		for j, slot := range impl.HiddenSlots(r.list) {
			if leaves[j] != r.tape[slot] {
				t.Errorf("HiddenRun(%v, %v) reads %v: access %d does not read number %d of the tape", r.list, r.tape, leaves, j, slot)
			}
		}
	}
}

// P83: what is read tells nothing of the accesses: for other ones, as many, a tape exists by which the same leaves are read.
func TestOneTapeForOtherAccesses(t *testing.T) {
	draw := draws(830)
	for _, r := range someRunnings(draw) {
		_, leaves := hiddenRun(t, r)
		others := make([]impl.Access, len(r.list))
		for j := range others {
			others[j] = drawnAccess(draw)
		}
		tape := slices.Clone(r.tape)
		for j, slot := range impl.HiddenSlots(others) {
			tape[slot] = leaves[j]
		}
		if _, again := hiddenRun(t, running{others, tape}); !slices.Equal(again, leaves) {
			t.Errorf("HiddenRun(%v, %v) reads %v, not %v", others, tape, again, leaves)
		}
	}
}

// hiddenWithSpare returns a copy of what is kept, with room for more behind each list.
func hiddenWithSpare(h impl.Hidden) impl.Hidden {
	behind := impl.Place{Cell: spare, Leaf: spare, Value: spare}
	h = cloned(h)
	h.Nodes = append(h.Nodes, []impl.Place{behind})[:len(h.Nodes)]
	for node, places := range h.Nodes {
		h.Nodes[node] = withRoom(places, behind)
	}
	h.Stash, h.Leaves = withRoom(h.Stash, behind), withSpare(h.Leaves)
	return h
}

// wantAccessKept fails the test if HiddenDo does not keep the rules on memory. It is called twice, so that both results are held against each other.
func wantAccessKept(t *testing.T, x accessing) {
	t.Helper()
	do := func() impl.Hidden {
		impl.HiddenOk(x.h)
		h, _, _, _ := impl.HiddenDo(x.h, x.a, x.leaf)
		return h
	}
	places := func() [][]impl.Place {
		return slices.Concat(everywhere(do()), everywhere(do()))
	}
	leaves := func() [][]int {
		return [][]int{do().Leaves, do().Leaves}
	}
	mark := impl.Place{Cell: spare - 1, Leaf: spare - 1, Value: spare - 1}
	wantOwnMemoryOf(t, "HiddenDo", everywhere(x.h), mark, places)
	wantOwnMemoryOf(t, "HiddenDo", [][]int{x.h.Leaves}, mark, places)
	wantOwnMemoryOf(t, "HiddenDo", everywhere(x.h), spare-1, leaves)
	wantOwnMemory(t, "HiddenDo", [][]int{x.h.Leaves}, leaves)
	wantNodesApart(t, x.h, do)
}

// wantNodesApart fails the test if two results keep their lists of nodes in the same memory, or one does in that of an argument.
func wantNodesApart(t *testing.T, h impl.Hidden, do func() impl.Hidden) {
	t.Helper()
	before, first, second := cloned(h), do(), do()
	kept, room := cloned(first), second.Nodes[:cap(second.Nodes)]
	for i := range room {
		room[i] = []impl.Place{{Cell: spare}}
	}
	if !sameHidden(first, kept) || !sameHidden(h, before) {
		t.Errorf("the nodes of %v and of %v share memory", h, first)
	}
}

// P78 to P80: the general rules on memory.
func TestHiddenOwnsItsMemory(t *testing.T) {
	draw := draws(790)
	for _, h := range append(someHidden(draw), notHidden(draw)[:60]...) {
		h = hiddenWithSpare(h)
		for cell := -1; cell < 8; cell++ {
			wantAccessKept(t, accessing{h, read(cell), draw(4)})
			wantAccessKept(t, accessing{h, write(cell, 100), draw(4)})
		}
		wantAccessKept(t, accessing{h, write(0, 100), 4})
	}
	for n := 6; n < 12; n++ {
		tape := withSpare(slices.Repeat([]int{2}, n))
		fresh := func() impl.Hidden {
			h, _ := impl.HiddenNew(tape)
			return h
		}
		wantOwnMemory(t, "HiddenNew", [][]int{tape}, func() [][]int {
			return [][]int{fresh().Leaves, fresh().Leaves}
		})
		wantOwnMemoryOf(t, "HiddenNew", [][]int{tape}, impl.Place{Cell: spare}, func() [][]impl.Place {
			return slices.Concat(everywhere(fresh()), everywhere(fresh()))
		})
		wantNodesApart(t, impl.Hidden{}, fresh)
	}
}

// P81 to P83: the general rules on memory.
func TestHiddenRunOwnsItsMemory(t *testing.T) {
	draw := draws(811)
	for _, r := range append(someRunnings(draw), running{make([]impl.Access, 41), make([]int, 49)}, running{nil, []int{4}}, running{[]impl.Access{{Cell: 8}}, make([]int, 9)}) {
		list, tape := withRoom(r.list, impl.Access{Cell: spare}), withSpare(r.tape)
		run := func() [][]int {
			a, b, _ := impl.HiddenRun(list, tape)
			c, d, _ := impl.HiddenRun(list, tape)
			return [][]int{a, b, c, d, impl.HiddenSlots(list), impl.HiddenSlots(list)}
		}
		wantOwnMemory(t, "HiddenRun", [][]int{tape}, run)
		wantOwnMemoryOf(t, "HiddenRun and HiddenSlots", [][]impl.Access{list}, spare-1, run)
	}
}

// P78 to P83: what was told before does not count, nor what is told at the same time.
func TestHiddenKeepsNoState(t *testing.T) {
	var together sync.WaitGroup
	for part := range 4 {
		together.Add(1)
		go func() {
			defer together.Done()
			draw := draws(uint32(812 + part%2))
			list, kept := someRunnings(draw), someHidden(draw)
			told := func(i int) string {
				values, leaves, ok := impl.HiddenRun(list[i].list, list[i].tape)
				h, value, leaf, done := impl.HiddenDo(kept[i], write(i%8, i%113), i%4)
				return fmt.Sprint(values, leaves, ok, h, value, leaf, done, impl.HiddenSlots(list[i].list))
			}
			var before []string
			for i := range kept {
				before = append(before, told(i))
				impl.HiddenDo(kept[i], read(8), 0)
				impl.HiddenRun(list[i].list, nil)
			}
			for i := len(kept) - 1; i >= 0; i-- {
				if again := told(i); again != before[i] {
					t.Errorf("of %v and %v there is %s, and %s before", list[i], kept[i], again, before[i])
				}
			}
		}()
	}
	together.Wait()
}
