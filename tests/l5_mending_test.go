package tests

import (
	"math"
	"math/bits"
	"slices"
	"testing"

	"loop.example/underveil/impl"
)

// mostReckoned reckons how many wrong shares of n are found for a bound: twice as many, and one more than the bound, are at most n.
func mostReckoned(n, bound int) int {
	most := 0
	for 2*(most+1)+bound+1 <= n {
		most++
	}
	return most
}

// throughAt reckons the value at a number of the polynomial through points: that at 0 of the one that is moved by this number.
func throughAt(list []impl.Point, x int) int {
	moved := slices.Clone(list)
	for i := range moved {
		moved[i].X = (moved[i].X + 113 - x) % 113
	}
	return joinReckoned(moved)
}

// mended is what SharesMend tells.
type mended struct {
	secret int
	wrong  []int
	ok     bool
}

func (m mended) equal(other mended) bool {
	return m.secret == other.secret && slices.Equal(m.wrong, other.wrong) && m.ok == other.ok
}

// mendReckoned reckons what SharesMend tells of valid shares: it goes through all choices of shares, of one more than the bound, and fails the test if there are two readings.
func mendReckoned(t *testing.T, list []impl.Point, bound int) mended {
	t.Helper()
	found := mended{}
	for kept := range uint(1) << len(list) {
		if bits.OnesCount(kept) != bound+1 {
			continue
		}
		var some []impl.Point
		for i, share := range list {
			if kept>>i&1 == 1 {
				some = append(some, share)
			}
		}
		reading := mended{throughAt(some, 0), nil, true}
		for _, share := range list {
			if throughAt(some, share.X) != share.Y {
				reading.wrong = append(reading.wrong, share.X)
			}
		}
		if len(reading.wrong) > mostReckoned(len(list), bound) {
			continue
		}
		if found.ok && !found.equal(reading) {
			t.Fatalf("%v has the readings %v and %v for the bound %d", list, found, reading, bound)
		}
		found = reading
	}
	return found
}

func sharesMend(list []impl.Point, bound int) mended {
	secret, wrong, ok := impl.SharesMend(list, bound)
	return mended{secret, wrong, ok}
}

// wantNotMended fails the test unless SharesMend tells nothing.
func wantNotMended(t *testing.T, list []impl.Point, bound int) {
	t.Helper()
	if got := sharesMend(list, bound); !got.equal(mended{}) {
		t.Errorf("SharesMend(%v, %d) is %v, not nothing and false", list, bound, got)
	}
}

// broken is shares of a secret, of which some were changed.
type broken struct {
	list    []impl.Point
	bound   int
	secret  int
	changed []int // the X of the changed ones, in the order of the list
}

// brokenShares returns n drawn shares, in no order, of which so many are changed, in no order: by drawn numbers, or all of them to shares of one other polynomial that is as short.
func brokenShares(draw func(int) int, n, bound, many int, agree bool) broken {
	b := broken{list: drawnShares(draw, n, 7), bound: bound, secret: draw(113)}
	p := append([]int{b.secret}, drawnList(draw, bound)...)
	change := drawnList(draw, bound+1) // may be 0 at some X; these shares stay as they are
	change[0] = 1 + draw(112)
	for i, place := range drawnShares(draw, n, n) { // each X from 1 to n once, in no order: the places in the list
		told := &b.list[place.X-1]
		told.Y = valueAt(p, told.X)
		if i < many && agree {
			told.Y = (told.Y + valueAt(change, told.X)) % 113
		} else if i < many {
			told.Y = (told.Y + 1 + draw(112)) % 113
		}
	}
	for _, told := range b.list {
		if told.Y != valueAt(p, told.X) {
			b.changed = append(b.changed, told.X)
		}
	}
	return b
}

// someBroken returns shares for all numbers of parties and bounds, of which from none to all are changed.
func someBroken(draw func(int) int) []broken {
	var list []broken
	for n := 1; n <= 7; n++ {
		for bound := range n {
			for many := range n + 1 {
				for range 12 {
					list = append(list, brokenShares(draw, n, bound, many, false), brokenShares(draw, n, bound, many, true))
				}
			}
		}
	}
	return list
}

// P30
func TestMendMostOfTwoPartiesMoreIsOneMore(t *testing.T) {
	for n := 1; n <= 5; n++ {
		for bound := range n {
			if got, more := impl.MendMost(n, bound), impl.MendMost(n+2, bound); more != got+1 {
				t.Errorf("MendMost(%d, %d) is %d, and of two parties more %d", n, bound, got, more)
			}
		}
	}
	for i, row := range [][]int{{0}, {0, 0}, {1, 0, 0}, {1, 1, 0, 0}, {2, 1, 1, 0, 0}, {2, 2, 1, 1, 0, 0}, {3, 2, 2, 1, 1, 0, 0}} {
		for bound, want := range row {
			if got := impl.MendMost(i+1, bound); got != want {
				t.Errorf("MendMost(%d, %d) is %d, not %d", i+1, bound, got, want)
			}
		}
	}
}

// P30: of numbers of parties and bounds that are none.
func TestMendMostIsToldJustOfPartiesAndBounds(t *testing.T) {
	wantNone := func(n, bound int) {
		t.Helper()
		if got := impl.MendMost(n, bound); got != -1 {
			t.Errorf("MendMost(%d, %d) is %d, not -1", n, bound, got)
		}
	}
	for n := -20; n <= 30; n++ {
		for bound := -20; bound <= 30; bound++ {
			if n < 1 || n > 7 || bound < 0 || bound >= n {
				wantNone(n, bound)
			}
		}
		for _, bad := range extremes() {
			wantNone(n, bad)
			wantNone(bad, n)
			wantNone(bad, n+1)
		}
	}
	for _, n := range extremes() {
		for _, bound := range extremes() {
			wantNone(n, bound)
		}
	}
}

// P31
func TestSharesThatAreNotNamedAreOfOnePolynomial(t *testing.T) {
	told := 0
	for _, b := range someBroken(draws(31)) {
		want := mendReckoned(t, b.list, b.bound)
		got := sharesMend(b.list, b.bound)
		if !got.equal(want) {
			t.Errorf("SharesMend(%v, %d) is %v, not %v", b.list, b.bound, got, want)
		}
		if !got.ok {
			continue
		}
		told++
		right := slices.DeleteFunc(slices.Clone(b.list), func(share impl.Point) bool { return slices.Contains(got.wrong, share.X) })
		if len(right)+len(got.wrong) != len(b.list) || len(got.wrong) > impl.MendMost(len(b.list), b.bound) {
			t.Errorf("SharesMend(%v, %d) names %v", b.list, b.bound, got.wrong)
		}
		if p := polyThrough(t, right); len(p) > b.bound+1 || polyAt(t, p, 0) != got.secret {
			t.Errorf("SharesMend(%v, %d) is %v, but the others are of %v", b.list, b.bound, got, p)
		}
	}
	if told < 500 {
		t.Errorf("just %d lists of shares have a reading", told)
	}
}

// P31: of shares that are drawn one by one, few of which have a reading.
func TestSharesMendOfAnyShares(t *testing.T) {
	draw := draws(310)
	for n := 1; n <= 7; n++ {
		for bound := range n {
			for range 60 {
				list := drawnShares(draw, n, 7)
				for i := range list {
					list[i].Y = list[i].Y % (1 + draw(3)) // so that many agree
				}
				want := mendReckoned(t, list, bound)
				if got := sharesMend(list, bound); !got.equal(want) {
					t.Errorf("SharesMend(%v, %d) is %v, not %v", list, bound, got, want)
				}
			}
		}
	}
}

// P31: held against all polynomials of one coefficient and of two.
func TestSharesMendAmongAllPolynomials(t *testing.T) {
	draw := draws(311)
	for n := 1; n <= 7; n++ {
		for bound := range min(n, 2) {
			for many := range n + 1 {
				b := brokenShares(draw, n, bound, many, draw(2) == 0)
				want := mended{}
				for i := range 113 * (1 + bound*112) {
					p := []int{i % 113, i / 113}
					var wrong []int
					for _, share := range b.list {
						if valueAt(p, share.X) != share.Y {
							wrong = append(wrong, share.X)
						}
					}
					if len(wrong) <= mostReckoned(n, bound) {
						want = mended{p[0], wrong, true}
					}
				}
				if got := sharesMend(b.list, bound); !got.equal(want) {
					t.Errorf("SharesMend(%v, %d) is %v, not %v", b.list, bound, got, want)
				}
			}
		}
	}
}

// P31 and P33, with answers reckoned by hand.
func TestSharesMendReckonedByHand(t *testing.T) {
	for _, c := range []struct {
		list  []impl.Point
		bound int
		want  mended
	}{
		{[]impl.Point{{X: 1, Y: 5}}, 0, mended{5, nil, true}},
		{[]impl.Point{{X: 7, Y: 0}}, 0, mended{0, nil, true}},
		{[]impl.Point{{X: 1, Y: 5}, {X: 2, Y: 5}}, 0, mended{5, nil, true}},
		{[]impl.Point{{X: 1, Y: 5}, {X: 2, Y: 9}}, 0, mended{}},
		{[]impl.Point{{X: 1, Y: 5}, {X: 2, Y: 9}}, 1, mended{1, nil, true}}, // 1 + 4*x
		{[]impl.Point{{X: 1, Y: 5}, {X: 2, Y: 5}, {X: 3, Y: 9}}, 0, mended{5, []int{3}, true}},
		{[]impl.Point{{X: 3, Y: 9}, {X: 1, Y: 5}, {X: 2, Y: 5}}, 0, mended{5, []int{3}, true}},
		{[]impl.Point{{X: 1, Y: 5}, {X: 2, Y: 9}, {X: 3, Y: 9}}, 0, mended{9, []int{1}, true}}, // two wrong ones that agree
		{[]impl.Point{{X: 1, Y: 5}, {X: 2, Y: 9}, {X: 3, Y: 8}}, 0, mended{}},
		{[]impl.Point{{X: 1, Y: 9}, {X: 2, Y: 11}, {X: 3, Y: 13}}, 1, mended{7, nil, true}}, // 7 + 2*x
		{[]impl.Point{{X: 1, Y: 9}, {X: 2, Y: 11}, {X: 3, Y: 14}}, 1, mended{}},
		{[]impl.Point{{X: 1, Y: 9}, {X: 2, Y: 11}, {X: 3, Y: 14}, {X: 4, Y: 15}}, 1, mended{7, []int{3}, true}},
		{[]impl.Point{{X: 6, Y: 0}, {X: 4, Y: 15}, {X: 3, Y: 112}, {X: 5, Y: 17}, {X: 1, Y: 9}, {X: 2, Y: 11}}, 1, mended{7, []int{6, 3}, true}},
		{[]impl.Point{{X: 6, Y: 0}, {X: 4, Y: 15}, {X: 3, Y: 112}, {X: 5, Y: 0}, {X: 1, Y: 9}, {X: 2, Y: 11}}, 1, mended{}},
		{[]impl.Point{{X: 7, Y: 9}, {X: 6, Y: 9}, {X: 5, Y: 9}, {X: 4, Y: 5}, {X: 3, Y: 5}, {X: 2, Y: 5}, {X: 1, Y: 5}}, 0, mended{5, []int{7, 6, 5}, true}},
		{[]impl.Point{{X: 7, Y: 9}, {X: 6, Y: 9}, {X: 5, Y: 9}, {X: 4, Y: 9}, {X: 3, Y: 5}, {X: 2, Y: 5}, {X: 1, Y: 5}}, 0, mended{9, []int{3, 2, 1}, true}},
		{[]impl.Point{{X: 7, Y: 9}, {X: 6, Y: 9}, {X: 5, Y: 9}, {X: 4, Y: 8}, {X: 3, Y: 5}, {X: 2, Y: 5}, {X: 1, Y: 5}}, 0, mended{}},
		{[]impl.Point{{X: 1, Y: 1}, {X: 2, Y: 2}, {X: 3, Y: 3}, {X: 4, Y: 4}, {X: 5, Y: 5}, {X: 6, Y: 6}, {X: 7, Y: 8}}, 5, mended{}},
		{[]impl.Point{{X: 1, Y: 1}, {X: 2, Y: 2}, {X: 3, Y: 3}, {X: 4, Y: 4}, {X: 5, Y: 5}, {X: 6, Y: 6}, {X: 7, Y: 8}}, 4, mended{0, []int{7}, true}},
		{[]impl.Point{{X: 1, Y: 1}, {X: 2, Y: 2}, {X: 3, Y: 3}, {X: 4, Y: 4}, {X: 5, Y: 5}, {X: 6, Y: 6}, {X: 7, Y: 8}}, 6, mended{1, nil, true}},
	} {
		if got := sharesMend(c.list, c.bound); !got.equal(c.want) {
			t.Errorf("SharesMend(%v, %d) is %v, not %v", c.list, c.bound, got, c.want)
		}
	}
}

// P31: of arguments that are not valid.
func TestSharesMendIsToldJustOfShares(t *testing.T) {
	draw := draws(312)
	for _, bound := range append(extremes(), 0, 1, 2, 6, 7, 8) {
		wantNotMended(t, nil, bound)
		wantNotMended(t, []impl.Point{}, bound)
	}
	for n := 1; n <= 7; n++ {
		list := sharesReckoned(giving{5, n, nil})
		for _, bound := range append(extremes(), n, n+1, 8, -n) {
			wantNotMended(t, list, bound)
		}
	}
	for bound := range 22 {
		wantNotMended(t, sharesReckoned(giving{5, 8, nil}), bound)
		wantNotMended(t, append(sharesReckoned(giving{5, 7, nil}), impl.Point{X: 7, Y: 5}), bound)
		wantNotMended(t, append(sharesReckoned(giving{5, 7, nil}), impl.Point{X: 0, Y: 5}), bound)
		wantNotMended(t, sharesReckoned(giving{5, 21, nil}), bound)
		wantNotMended(t, make([]impl.Point, 1000), bound)
		wantNotMended(t, drawnShares(draw, 20, 112), bound)
	}
}

// P31: of lists of which one share is none, or has the X of another one, where all others agree.
func TestSharesMendIsToldJustOfPoints(t *testing.T) {
	for n := 1; n <= 7; n++ {
		for bound := range n {
			for i := range n {
				for _, bad := range append(extremes(), 0, 8, 9, 112) {
					list := sharesReckoned(giving{5, n, make([]int, bound)})
					list[i].X = bad
					wantNotMended(t, list, bound)
				}
				for _, bad := range append(extremes(), 118, -108) { // 5 but for multiples of 113
					list := sharesReckoned(giving{5, n, make([]int, bound)})
					list[i].Y = bad
					wantNotMended(t, list, bound)
				}
				for j := range n {
					list := sharesReckoned(giving{5, n, make([]int, bound)})
					list[i].X = list[j].X
					if i != j {
						wantNotMended(t, list, bound)
						list[i].Y = 6
						wantNotMended(t, list, bound)
					}
				}
			}
		}
	}
}

// wantWrong fails the test unless SharesWrong is how many shares there are whose Y is not reckoned to be that of a polynomial.
func wantWrong(t *testing.T, p []int, list []impl.Point) {
	t.Helper()
	want := 0
	for _, share := range list {
		if valueAt(p, share.X) != share.Y {
			want++
		}
	}
	if got := impl.SharesWrong(p, list); got != want {
		t.Errorf("SharesWrong(%v, %v) is %d, not %d", p, list, got, want)
	}
}

// P32
func TestSharesWrongOfPolyThroughIsZero(t *testing.T) {
	draw := draws(32)
	for n := range 21 {
		for range 50 {
			list := drawnPoints(draw, n)
			p := polyThrough(t, list)
			if got := impl.SharesWrong(p, list); got != 0 {
				t.Errorf("SharesWrong(%v, %v) is %d, not 0", p, list, got)
			}
		}
	}
	for _, b := range someBroken(draw) {
		p := polyThrough(t, b.list)
		if got := impl.SharesWrong(p, b.list); got != 0 {
			t.Errorf("SharesWrong(%v, %v) is %d, not 0", p, b.list, got)
		}
	}
}

// P32: changed shares are counted one by one, those with the same X, with an X that is 0, and more than 20 too, as the sentence asks for numbers only.
func TestSharesWrongCountsWhatDiffers(t *testing.T) {
	draw := draws(320)
	for _, p := range somePolynomials() {
		for _, n := range []int{0, 1, 2, 7, 8, 20, 21, 113} {
			list := drawnPoints(draw, n)
			wantWrong(t, p, list)
			for i := range list {
				list[i].Y = valueAt(p, list[i].X)
			}
			wantWrong(t, p, list)
			for i := range list {
				list[i].Y = (list[i].Y + 1 + draw(112)) % 113
				if got := impl.SharesWrong(p, list); got != i+1 {
					t.Errorf("SharesWrong(%v, %v) is %d, not %d", p, list, got, i+1)
				}
			}
			same := slices.Repeat([]impl.Point{{X: draw(113), Y: draw(113)}}, n)
			wantWrong(t, p, same)
			wantWrong(t, p, append(same, list...))
		}
	}
	for _, c := range []struct {
		p    []int
		list []impl.Point
		want int
	}{
		{nil, nil, 0},
		{[]int{7, 2}, nil, 0},
		{nil, []impl.Point{{X: 1, Y: 0}, {X: 1, Y: 3}, {X: 0, Y: 0}}, 1},
		{[]int{7, 2}, []impl.Point{{X: 1, Y: 9}, {X: 2, Y: 11}, {X: 0, Y: 7}, {X: 112, Y: 5}}, 0},
		{[]int{7, 2}, []impl.Point{{X: 1, Y: 9}, {X: 2, Y: 12}, {X: 0, Y: 0}, {X: 112, Y: 5}, {X: 2, Y: 12}}, 3},
	} {
		if got := impl.SharesWrong(c.p, c.list); got != c.want {
			t.Errorf("SharesWrong(%v, %v) is %d, not %d", c.p, c.list, got, c.want)
		}
	}
}

// P32: of what is no polynomial, and of points that are not of numbers.
func TestSharesWrongIsToldJustOfPolynomialsAndPoints(t *testing.T) {
	draw := draws(321)
	wantNone := func(p []int, list []impl.Point) {
		t.Helper()
		if got := impl.SharesWrong(p, list); got != -1 {
			t.Errorf("SharesWrong(%v, %v) is %d, not -1", p, list, got)
		}
	}
	for _, bad := range notPolynomials() {
		wantNone(bad, nil)
		wantNone(bad, []impl.Point{{X: 1, Y: 1}})
		wantNone(bad, drawnShares(draw, 7, 7))
		wantNone(bad, []impl.Point{{X: math.MinInt, Y: math.MaxInt}})
	}
	for n := 1; n <= 8; n++ {
		for i := range n {
			for _, bad := range extremes() {
				list := drawnPoints(draw, n)
				list[i].X = bad
				wantNone([]int{1, 2}, list)
				wantNone(nil, list)
				list[i] = impl.Point{X: 1, Y: bad}
				wantNone([]int{1, 2}, list)
				wantNone(nil, list)
				list[i].X = bad
				wantNone(nil, list)
			}
		}
	}
}

// P33: each choice of shares of a giving is changed, and the shares are told in both orders.
func TestSharesMendNamesJustTheChangedShares(t *testing.T) {
	draw := draws(33)
	for _, g := range someGivings(draw) {
		bound := len(g.tape)
		for changed := range uint(1) << g.n {
			if bits.OnesCount(changed) > mostReckoned(g.n, bound) {
				continue
			}
			list := sharesOf(t, g)
			want := mended{g.secret, nil, true}
			for i := range list {
				if changed>>i&1 == 1 {
					list[i].Y = (list[i].Y + 1 + draw(112)) % 113
					want.wrong = append(want.wrong, i+1)
				}
			}
			if got := sharesMend(list, bound); !got.equal(want) {
				t.Errorf("SharesMend(%v, %d) is %v, not %v", list, bound, got, want)
			}
			want.wrong = reversed(want.wrong)
			if got := sharesMend(reversed(list), bound); !got.equal(want) {
				t.Errorf("SharesMend of %v in the opposite order, %d is %v, not %v", list, bound, got, want)
			}
		}
	}
}

// P33: of shares of some of the parties, in no order, of which some are wrong and agree with each other, up to as many as are found; one more is not found, or another reading is.
func TestSharesMendOfWrongSharesThatAgree(t *testing.T) {
	counts := map[bool]int{}
	for _, b := range someBroken(draws(330)) {
		most := mostReckoned(len(b.list), b.bound)
		got := sharesMend(b.list, b.bound)
		if want := (mended{b.secret, b.changed, true}); len(b.changed) <= most && !got.equal(want) {
			t.Errorf("SharesMend(%v, %d) is %v, not %v", b.list, b.bound, got, want)
		}
		if len(b.changed) == most+1 {
			counts[got.ok]++
			if got.ok && slices.Equal(got.wrong, b.changed) {
				t.Errorf("SharesMend(%v, %d) is %v, and names one more than is found", b.list, b.bound, got)
			}
		}
	}
	if counts[true] < 20 || counts[false] < 20 {
		t.Errorf("with one more wrong share than is found there are %d readings, and %d times none", counts[true], counts[false])
	}
}

// P33: for each number that may be told in place of one share.
func TestSharesMendOfEachWrongNumber(t *testing.T) {
	for i := range 3 {
		for y := range 113 {
			list := sharesReckoned(giving{112, 3, nil})
			list[i].Y = y
			want := mended{112, []int{i + 1}, true}
			if y == 112 {
				want.wrong = nil
			}
			if got := sharesMend(list, 0); !got.equal(want) {
				t.Errorf("SharesMend(%v, 0) is %v, not %v", list, got, want)
			}
		}
	}
}

// P30 to P33: the general rules on memory. SharesMend is called twice, so that both results are held against each other.
func TestMendingOwnsItsMemory(t *testing.T) {
	draw := draws(331)
	behind := impl.Point{X: spare, Y: spare}
	for _, b := range append(someBroken(draw), broken{list: drawnShares(draw, 8, 8)}, broken{list: drawnShares(draw, 3, 7), bound: 3}, broken{}) {
		list := withRoom(b.list, behind)
		wantOwnMemoryOf(t, "SharesMend", [][]impl.Point{list}, spare-1, func() [][]int {
			_, first, _ := impl.SharesMend(list, b.bound)
			_, second, _ := impl.SharesMend(list, b.bound)
			return [][]int{first, second}
		})
		wantOwnMemoryOf(t, "SharesWrong", [][]impl.Point{list}, spare-1, func() [][]int {
			return [][]int{{impl.SharesWrong([]int{1, 2}, list)}}
		})
		p := withSpare(drawnPolynomial(draw, draw(8)))
		wantOwnMemory(t, "SharesWrong", [][]int{p}, func() [][]int {
			return [][]int{{impl.SharesWrong(p, list)}}
		})
	}
}
