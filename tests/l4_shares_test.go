package tests

import (
	"math"
	"slices"
	"testing"

	"loop.example/underveil/impl"
)

// extremes are whole numbers that are no numbers: the nearest, some that are numbers but for multiples of 113, and the least and the greatest.
func extremes() []int {
	return []int{math.MinInt, math.MinInt + 1, -1 << 32, -226, -114, -113, -112, -1, 113, 114, 115, 226, 1 << 32, 1<<32 + 1, math.MaxInt - 1, math.MaxInt}
}

// giving is a secret, how many parties it is given out to, and the tape.
type giving struct {
	secret, n int
	tape      []int
}

// someGivings returns givings to 1 to 7 parties with tapes of each length that there may be: zeros, the greatest numbers, ones that end with a 0, and drawn ones.
func someGivings(draw func(int) int) []giving {
	var list []giving
	for n := 1; n <= 7; n++ {
		for bound := range n {
			list = append(list,
				giving{0, n, make([]int, bound)}, giving{112, n, make([]int, bound)}, giving{0, n, slices.Repeat([]int{1}, bound)},
				giving{112, n, slices.Repeat([]int{112}, bound)}, giving{1, n, slices.Repeat([]int{112}, bound)})
			for range 6 {
				list = append(list, giving{draw(113), n, drawnList(draw, bound)})
			}
			if bound > 0 {
				tape := drawnList(draw, bound)
				tape[bound-1] = 0
				list = append(list, giving{draw(113), n, tape})
			}
		}
	}
	return list
}

// sharesReckoned reckons the shares of a giving.
func sharesReckoned(g giving) []impl.Point {
	p := append([]int{g.secret}, g.tape...)
	list := make([]impl.Point, g.n)
	for i := range list {
		list[i] = impl.Point{X: i + 1, Y: valueAt(p, i+1)}
	}
	return list
}

// drawnShares returns n points with different X from 1 to most, in no order, of which the Y are drawn.
func drawnShares(draw func(int) int, n, most int) []impl.Point {
	xs := allNumbers()[1 : most+1]
	list := make([]impl.Point, n)
	for i := range list {
		j := i + draw(most-i)
		xs[i], xs[j] = xs[j], xs[i]
		list[i] = impl.Point{X: xs[i], Y: draw(113)}
	}
	return list
}

// reversed returns a list in the opposite order.
func reversed[E any](list []E) []E {
	list = slices.Clone(list)
	slices.Reverse(list)
	return list
}

// joinReckoned reckons the value at 0 of the polynomial through shares: each Y counts with the product of the other X, each divided by its difference to the own one.
func joinReckoned(list []impl.Point) int {
	sum := 0
	for i, share := range list {
		weight, below := share.Y, 1
		for j, other := range list {
			if j != i {
				weight = weight * other.X % 113
				below = below * (113 + other.X - share.X) % 113
			}
		}
		inverse := 1
		for below*inverse%113 != 1 {
			inverse++
		}
		sum = (sum + weight*inverse) % 113
	}
	return sum
}

// wantNoShares fails the test unless a result is nothing and false.
func wantNoShares(t *testing.T, name string, got []impl.Point, ok bool) {
	t.Helper()
	if len(got) != 0 || ok {
		t.Errorf("%s is %v, %v, not nothing and false", name, got, ok)
	}
}

func sharesOf(t *testing.T, g giving) []impl.Point {
	t.Helper()
	list, ok := impl.SharesOf(g.secret, g.n, g.tape)
	if !ok || len(list) != g.n {
		t.Fatalf("SharesOf(%d, %d, %v) is %v, %v", g.secret, g.n, g.tape, list, ok)
	}
	return list
}

func sharesJoin(t *testing.T, list []impl.Point) int {
	t.Helper()
	secret, ok := impl.SharesJoin(list)
	return wantNumber(t, "SharesJoin", secret, ok)
}

func sharesExplain(t *testing.T, secret int, list []impl.Point) []int {
	t.Helper()
	tape, ok := impl.SharesExplain(secret, list)
	return wantList(t, "SharesExplain", tape, ok, len(list))
}

func sharesAdd(t *testing.T, a, b []impl.Point) []impl.Point {
	t.Helper()
	list, ok := impl.SharesAdd(a, b)
	if !ok || len(list) != len(a) {
		t.Fatalf("SharesAdd(%v, %v) is %v, %v", a, b, list, ok)
	}
	return list
}

func sharesScale(t *testing.T, list []impl.Point, by int) []impl.Point {
	t.Helper()
	scaled, ok := impl.SharesScale(list, by)
	if !ok || len(scaled) != len(list) {
		t.Fatalf("SharesScale(%v, %d) is %v, %v", list, by, scaled, ok)
	}
	return scaled
}

// P24
func TestSharesJoinOfEnoughSharesIsTheSecret(t *testing.T) {
	for _, g := range someGivings(draws(24)) {
		list := sharesOf(t, g)
		if want := sharesReckoned(g); !slices.Equal(list, want) {
			t.Errorf("SharesOf(%d, %d, %v) is %v, not %v", g.secret, g.n, g.tape, list, want)
		}
		for kept := range 1 << g.n {
			var some []impl.Point
			for i, share := range list {
				if kept>>i&1 == 1 {
					some = append(some, share)
				}
			}
			if len(some) <= len(g.tape) {
				continue
			}
			if got := sharesJoin(t, some); got != g.secret {
				t.Errorf("SharesJoin(%v) is %d, not the secret %d, given out by %v", some, got, g.secret, g.tape)
			}
		}
		if got := sharesJoin(t, list[g.n-len(g.tape)-1:]); got != g.secret {
			t.Errorf("SharesJoin of the last of %v is %d, not %d", list, got, g.secret)
		}
	}
}

// P24: for each secret, with an empty tape, and one that is one shorter than the parties.
func TestSharesOfEachSecret(t *testing.T) {
	draw := draws(240)
	for _, secret := range allNumbers() {
		for n := 1; n <= 7; n++ {
			same := sharesOf(t, giving{secret, n, nil})
			for i, share := range same {
				if want := (impl.Point{X: i + 1, Y: secret}); share != want {
					t.Errorf("the share of %d by an empty tape is %v, not %v", secret, share, want)
				}
			}
			list := sharesOf(t, giving{secret, n, drawnList(draw, n-1)})
			if got := sharesJoin(t, list); got != secret || sharesJoin(t, same[n-1:]) != secret {
				t.Errorf("SharesJoin(%v) is %d, not %d", list, got, secret)
			}
		}
	}
}

// P24, with answers reckoned by hand.
func TestSharesReckonedByHand(t *testing.T) {
	for _, c := range []struct {
		giving
		ys []int
	}{
		{giving{7, 3, []int{2}}, []int{9, 11, 13}},
		{giving{7, 1, nil}, []int{7}},
		{giving{112, 2, []int{1}}, []int{0, 1}},
		{giving{1, 7, []int{0, 1}}, []int{2, 5, 10, 17, 26, 37, 50}},
		{giving{0, 7, []int{0, 0, 1}}, []int{1, 8, 27, 64, 12, 103, 4}},
		{giving{5, 7, []int{0, 0, 0, 0, 0, 0}}, []int{5, 5, 5, 5, 5, 5, 5}},
	} {
		for i, share := range sharesOf(t, c.giving) {
			if want := (impl.Point{X: i + 1, Y: c.ys[i]}); share != want {
				t.Errorf("share %d of %v is %v, not %v", i, c.giving, share, want)
			}
		}
	}
	for _, c := range []struct {
		list []impl.Point
		want int
	}{
		{[]impl.Point{{X: 1, Y: 9}}, 9},
		{[]impl.Point{{X: 112, Y: 0}}, 0},
		{[]impl.Point{{X: 2, Y: 11}, {X: 3, Y: 13}}, 7},
		{[]impl.Point{{X: 3, Y: 13}, {X: 1, Y: 9}, {X: 2, Y: 11}}, 7},
		{[]impl.Point{{X: 1, Y: 2}, {X: 2, Y: 5}, {X: 112, Y: 2}}, 1}, // 1 + x*x
		{[]impl.Point{{X: 111, Y: 109}, {X: 112, Y: 111}}, 0},         // 2*x
	} {
		if got := sharesJoin(t, c.list); got != c.want {
			t.Errorf("SharesJoin(%v) is %d, not %d", c.list, got, c.want)
		}
	}
}

// P24: by arguments that are not valid.
func TestSharesOfIsToldJustOfGivings(t *testing.T) {
	wantNone := func(secret, n int, tape []int) {
		t.Helper()
		list, ok := impl.SharesOf(secret, n, tape)
		wantNoShares(t, "SharesOf", list, ok)
	}
	for _, bad := range notNumbers() {
		wantNone(bad, 3, []int{1})
		wantNone(3, 3, []int{bad})
		wantNone(3, 7, []int{1, 2, 3, 4, 5, bad})
		wantNone(3, 7, []int{bad, 2, 3, 4, 5, 6})
	}
	for _, n := range append(extremes(), 0, -7, 8, 9, 14, 112) {
		wantNone(1, n, nil)
		wantNone(1, n, []int{2, 3})
		wantNone(1, n, slices.Repeat([]int{2}, 8))
		wantNone(1, n, slices.Repeat([]int{2}, 6))
	}
	for n := 1; n <= 7; n++ {
		for _, length := range []int{n, n + 1, 7, 8, 20, 1000} {
			wantNone(1, n, slices.Repeat([]int{2}, length))
			wantNone(1, n, make([]int, length))
		}
	}
}

// P24 and P25: of points with different X that are not 0, at most 20 of them, whatever their X and Y.
func TestSharesJoinOfAllKindsOfShares(t *testing.T) {
	draw := draws(25)
	for n := 1; n <= 20; n++ {
		for range 20 {
			list := drawnShares(draw, n, 112)
			if got, want := sharesJoin(t, list), joinReckoned(list); got != want || sharesJoin(t, reversed(list)) != want {
				t.Errorf("SharesJoin(%v) is %d, not %d", list, got, want)
			}
		}
	}
	for _, x := range allNumbers()[1:] {
		for _, y := range allNumbers() {
			if got := sharesJoin(t, []impl.Point{{X: x, Y: y}}); got != y {
				t.Errorf("SharesJoin of the share %d, %d is %d", x, y, got)
			}
		}
	}
}

// P24: of what are no shares.
func TestSharesJoinIsToldJustOfShares(t *testing.T) {
	draw := draws(241)
	wantNone := func(list []impl.Point) {
		t.Helper()
		secret, ok := impl.SharesJoin(list)
		wantNothing(t, "SharesJoin", secret, ok)
	}
	wantNone(nil)
	wantNone([]impl.Point{})
	wantNone(drawnShares(draw, 21, 112))
	wantNone(drawnShares(draw, 112, 112))
	wantNone(make([]impl.Point, 1000))
	for n := 1; n <= 20; n++ {
		for i := range n {
			for _, bad := range append(extremes(), 0) {
				list := drawnShares(draw, n, 112)
				list[i].X = bad
				wantNone(list)
			}
			for _, bad := range extremes() {
				list := drawnShares(draw, n, 112)
				list[i].Y = bad
				wantNone(list)
			}
			for j := range i {
				list := drawnShares(draw, n, 112)
				list[i].X = list[j].X
				wantNone(list)
				list[i].Y = list[j].Y
				wantNone(list)
			}
		}
	}
}

// P25
func TestSharesJoinInTheOppositeOrderIsTheSame(t *testing.T) {
	for _, g := range someGivings(draws(250)) {
		list := sharesOf(t, g)
		for first := range list {
			some := list[first:]
			if got, want := sharesJoin(t, reversed(some)), sharesJoin(t, some); got != want {
				t.Errorf("SharesJoin(%v) is %d, and %d in the opposite order", some, want, got)
			}
		}
	}
}

// wantGiven fails the test unless a secret is given out by a tape so that the parties have just these shares.
func wantGiven(t *testing.T, secret int, tape []int, list []impl.Point) {
	t.Helper()
	for n := len(tape) + 1; n <= 7; n++ {
		given := sharesOf(t, giving{secret, n, tape})
		for _, share := range list {
			if share.X <= n && given[share.X-1] != share {
				t.Errorf("SharesOf(%d, %d, %v) is %v, without %v", secret, n, tape, given, share)
			}
		}
	}
}

// P26
func TestSharesOfBySharesExplainGivesJustTheseShares(t *testing.T) {
	draw := draws(26)
	for n := range 7 {
		for range 300 {
			list := drawnShares(draw, n, 7)
			secret := draw(113)
			tape := sharesExplain(t, secret, list)
			wantGiven(t, secret, tape, list)
			if got := sharesExplain(t, secret, reversed(list)); !slices.Equal(got, tape) {
				t.Errorf("SharesExplain(%d, %v) is %v, and %v in the opposite order", secret, list, tape, got)
			}
		}
		zeros := drawnShares(draw, n, 7)
		for i := range zeros {
			zeros[i].Y = 0
		}
		if got := sharesExplain(t, 0, zeros); !slices.Equal(got, make([]int, n)) {
			t.Errorf("SharesExplain(0, %v) is %v", zeros, got)
		}
	}
	for _, secret := range allNumbers() {
		if got := sharesExplain(t, secret, nil); len(got) != 0 {
			t.Errorf("SharesExplain(%d) of no share is %v", secret, got)
		}
	}
	if got := sharesExplain(t, 20, []impl.Point{{X: 1, Y: 9}}); got[0] != 102 {
		t.Errorf("SharesExplain(20) of the share 1, 9 is %v", got)
	}
}

// P26: whatever parties see that are one too few, there is for each secret one tape, and no other, by which they see it.
func TestOneTapeForEachSecret(t *testing.T) {
	for _, secret := range allNumbers() {
		for x := 1; x <= 7; x++ {
			seen := [113]int{}
			for _, a := range allNumbers() {
				share := sharesOf(t, giving{secret, 7, []int{a}})[x-1]
				seen[share.Y]++
				if got := sharesExplain(t, secret, []impl.Point{share}); got[0] != a {
					t.Errorf("SharesExplain(%d) of %v is %v, not %d", secret, share, got, a)
				}
			}
			for y, n := range seen {
				if n != 1 {
					t.Errorf("%d tapes give party %d the share %d of %d", n, x, y, secret)
				}
			}
		}
	}
	draw := draws(260)
	list := drawnShares(draw, 2, 3)
	for _, secret := range []int{0, 1, 77} {
		want := sharesExplain(t, secret, list)
		for _, a := range allNumbers() {
			for _, b := range allNumbers() {
				given := sharesOf(t, giving{secret, 3, []int{a, b}})
				sees := given[list[0].X-1] == list[0] && given[list[1].X-1] == list[1]
				if sees != slices.Equal(want, []int{a, b}) {
					t.Errorf("by the tape %d, %d parties see %v: %v", a, b, list, sees)
				}
			}
		}
	}
}

// P26: of arguments that are not valid.
func TestSharesExplainIsToldJustOfShares(t *testing.T) {
	draw := draws(261)
	wantNone := func(secret int, list []impl.Point) {
		t.Helper()
		tape, ok := impl.SharesExplain(secret, list)
		wantNoList(t, "SharesExplain", tape, ok)
	}
	for _, bad := range notNumbers() {
		wantNone(bad, nil)
		wantNone(bad, drawnShares(draw, 3, 7))
		wantNone(bad, drawnShares(draw, 6, 7))
	}
	for secret := range 113 {
		wantNone(secret, drawnShares(draw, 7, 7))
		wantNone(secret, drawnShares(draw, 8, 8))
	}
	wantNone(1, make([]impl.Point, 1000))
	for n := 1; n <= 6; n++ {
		for i := range n {
			for _, bad := range append(extremes(), 0, 8, 9, 112) {
				list := drawnShares(draw, n, 7)
				list[i].X = bad
				wantNone(draw(113), list)
			}
			for _, bad := range extremes() {
				list := drawnShares(draw, n, 7)
				list[i].Y = bad
				wantNone(draw(113), list)
			}
			for j := range i {
				list := drawnShares(draw, n, 7)
				list[i].X = list[j].X
				wantNone(draw(113), list)
				list[i].Y = list[j].Y
				wantNone(draw(113), list)
			}
		}
	}
}

// P27
func TestSharesJoinOfSharesAdd(t *testing.T) {
	draw := draws(27)
	for _, a := range someGivings(draw) {
		for range 5 {
			b := giving{draw(113), a.n, drawnList(draw, draw(a.n))}
			one, other := sharesOf(t, a), sharesOf(t, b)
			sum := sharesAdd(t, one, other)
			for i, share := range sum {
				if want := (impl.Point{X: i + 1, Y: (one[i].Y + other[i].Y) % 113}); share != want {
					t.Errorf("SharesAdd(%v, %v) has %v, not %v", one, other, share, want)
				}
			}
			bound := max(len(a.tape), len(b.tape))
			for _, some := range [][]impl.Point{sum, sum[:bound+1], sum[a.n-bound-1:]} {
				if got, want := sharesJoin(t, some), add(t, a.secret, b.secret); got != want {
					t.Errorf("SharesJoin(%v) is %d, not the sum %d", some, got, want)
				}
			}
		}
	}
}

// P27 and P28: of shares in any order, up to as many as are joined.
func TestSharesAddAndSharesScaleOfAllKindsOfShares(t *testing.T) {
	draw := draws(270)
	for n := 1; n <= 20; n++ {
		for range 20 {
			a := drawnShares(draw, n, 112)
			b := slices.Clone(a)
			for i := range b {
				b[i].Y = draw(113)
			}
			if got, want := sharesJoin(t, sharesAdd(t, a, b)), add(t, sharesJoin(t, a), sharesJoin(t, b)); got != want {
				t.Errorf("SharesJoin of SharesAdd(%v, %v) is %d, not %d", a, b, got, want)
			}
			by := draw(113)
			if got, want := sharesJoin(t, sharesScale(t, a, by)), mul(t, sharesJoin(t, a), by); got != want {
				t.Errorf("SharesJoin of SharesScale(%v, %d) is %d, not %d", a, by, got, want)
			}
		}
	}
}

// P27 and P28: the sentences about these two ask for numbers only: there may be no share, more than are joined, the same X again, and an X that is 0.
func TestSharesAddAndSharesScaleOfPointsOfNumbers(t *testing.T) {
	a := []impl.Point{{X: 0, Y: 112}, {X: 5, Y: 1}, {X: 5, Y: 3}, {X: 112, Y: 112}, {X: 0, Y: 0}}
	b := []impl.Point{{X: 0, Y: 3}, {X: 5, Y: 2}, {X: 5, Y: 110}, {X: 112, Y: 112}, {X: 0, Y: 0}}
	sum := []impl.Point{{X: 0, Y: 2}, {X: 5, Y: 3}, {X: 5, Y: 0}, {X: 112, Y: 111}, {X: 0, Y: 0}}
	scaled := []impl.Point{{X: 0, Y: 111}, {X: 5, Y: 2}, {X: 5, Y: 6}, {X: 112, Y: 111}, {X: 0, Y: 0}}
	if got := sharesAdd(t, a, b); !slices.Equal(got, sum) {
		t.Errorf("SharesAdd(%v, %v) is %v", a, b, got)
	}
	if got := sharesScale(t, a, 2); !slices.Equal(got, scaled) {
		t.Errorf("SharesScale(%v, 2) is %v", a, got)
	}
	for _, n := range []int{0, 8, 21, 200} {
		many := slices.Repeat([]impl.Point{{X: 3, Y: 100}}, n)
		if got := sharesAdd(t, many, many); !slices.Equal(got, slices.Repeat([]impl.Point{{X: 3, Y: 87}}, n)) {
			t.Errorf("SharesAdd of %d points is %v", n, got)
		}
		if got := sharesScale(t, many, 112); !slices.Equal(got, slices.Repeat([]impl.Point{{X: 3, Y: 13}}, n)) {
			t.Errorf("SharesScale of %d points is %v", n, got)
		}
	}
}

// P27: of lists that are not as long, have different X, or are not of numbers.
func TestSharesAddIsToldJustOfListsWithTheSameX(t *testing.T) {
	draw := draws(271)
	wantNone := func(a, b []impl.Point) {
		t.Helper()
		sum, ok := impl.SharesAdd(a, b)
		wantNoShares(t, "SharesAdd", sum, ok)
		sum, ok = impl.SharesAdd(b, a)
		wantNoShares(t, "SharesAdd", sum, ok)
	}
	for n := 1; n <= 8; n++ {
		list := drawnShares(draw, n, 112)
		for length := range n {
			wantNone(list, list[:length])
			wantNone(list, list[n-length:])
		}
		if n > 1 {
			wantNone(list, reversed(list)[:n-1])
			wantNone(list, append(slices.Clone(list[1:]), list[0]))
		}
		for i := range n {
			other := slices.Clone(list)
			other[i].X = (other[i].X + 1) % 113
			wantNone(list, other)
			for _, bad := range extremes() {
				other[i] = impl.Point{X: bad, Y: list[i].Y}
				wantNone(list, other)
				wantNone(other, other)
				other[i] = impl.Point{X: list[i].X, Y: bad}
				wantNone(list, other)
				wantNone(other, other)
			}
		}
	}
}

// P28
func TestSharesJoinOfSharesScale(t *testing.T) {
	draw := draws(28)
	for _, g := range someGivings(draw) {
		list := sharesOf(t, g)
		for _, by := range []int{0, 1, 2, 56, 57, 112, draw(113)} {
			scaled := sharesScale(t, list, by)
			for i, share := range scaled {
				if want := (impl.Point{X: i + 1, Y: list[i].Y * by % 113}); share != want {
					t.Errorf("SharesScale(%v, %d) has %v, not %v", list, by, share, want)
				}
			}
			for _, some := range [][]impl.Point{scaled, scaled[:len(g.tape)+1], scaled[g.n-len(g.tape)-1:]} {
				if got, want := sharesJoin(t, some), mul(t, g.secret, by); got != want {
					t.Errorf("SharesJoin(%v) is %d, not the product %d", some, got, want)
				}
			}
		}
	}
}

// P28: by what is no number, and of what is none.
func TestSharesScaleIsToldJustOfNumbers(t *testing.T) {
	draw := draws(280)
	wantNone := func(list []impl.Point, by int) {
		t.Helper()
		scaled, ok := impl.SharesScale(list, by)
		wantNoShares(t, "SharesScale", scaled, ok)
	}
	for _, bad := range notNumbers() {
		wantNone(nil, bad)
		wantNone(drawnShares(draw, 3, 7), bad)
	}
	for n := 1; n <= 8; n++ {
		for i := range n {
			for _, bad := range extremes() {
				list := drawnShares(draw, n, 112)
				list[i].X = bad
				wantNone(list, draw(113))
				list = drawnShares(draw, n, 112)
				list[i].Y = bad
				wantNone(list, draw(113))
				wantNone(list, 0)
			}
		}
	}
}

// P29
func TestSharesExplainGoesToAnotherSecretAndBack(t *testing.T) {
	for _, g := range someGivings(draws(29)) {
		bound := len(g.tape)
		seen := sharesOf(t, g)[:bound]
		for _, other := range allNumbers() {
			tape := sharesExplain(t, other, seen)
			again := sharesOf(t, giving{other, g.n, tape})[:bound]
			if !slices.Equal(again, seen) {
				t.Errorf("the first parties have %v of %d, and %v of %d", seen, g.secret, again, other)
			}
			if bound > 0 && slices.Equal(tape, g.tape) != (other == g.secret) {
				t.Errorf("by the tape %v the first parties have %v of %d and of %d", tape, seen, g.secret, other)
			}
			if back := sharesExplain(t, g.secret, again); !slices.Equal(back, g.tape) {
				t.Errorf("SharesExplain takes the tape %v to %v and back to %v", g.tape, tape, back)
			}
		}
	}
}

// P24 to P29: the general rules on memory. Each function is called twice, so that both results are held against each other.
func TestSharesOwnTheirMemory(t *testing.T) {
	draw := draws(290)
	behind, mark := impl.Point{X: spare, Y: spare}, impl.Point{X: spare - 1, Y: spare - 1}
	for _, g := range append(someGivings(draw), giving{113, 3, []int{1, 2}}, giving{1, 3, []int{1, -1}}, giving{1, 2, []int{1, 2}}) {
		tape := withSpare(g.tape)
		wantOwnMemoryOf(t, "SharesOf", [][]int{tape}, mark, func() [][]impl.Point {
			first, _ := impl.SharesOf(g.secret, g.n, tape)
			second, _ := impl.SharesOf(g.secret, g.n, tape)
			return [][]impl.Point{first, second}
		})
		a, b := withRoom(sharesReckoned(g), behind), withRoom(sharesReckoned(g), behind)
		wantOwnMemoryOfShares(t, a, b, mark)
		wantOwnMemoryOfShares(t, a, a, mark)
	}
	for n := range 9 {
		a := withRoom(drawnShares(draw, n, 8), behind)
		wantOwnMemoryOfShares(t, a, withRoom(reversed(a), behind), mark)
		wantOwnMemoryOfShares(t, a, a[:n/2], mark)
	}
}

// wantOwnMemoryOfShares fails the test if one of the functions of shares does not keep the rules on memory.
func wantOwnMemoryOfShares(t *testing.T, a, b []impl.Point, mark impl.Point) {
	t.Helper()
	args := [][]impl.Point{a, b}
	wantOwnMemoryOf(t, "SharesAdd", args, mark, func() [][]impl.Point {
		first, _ := impl.SharesAdd(a, b)
		second, _ := impl.SharesAdd(a, b)
		return [][]impl.Point{first, second}
	})
	wantOwnMemoryOf(t, "SharesScale", args, mark, func() [][]impl.Point {
		first, _ := impl.SharesScale(a, 1)
		second, _ := impl.SharesScale(a, 1)
		return [][]impl.Point{first, second}
	})
	wantOwnMemoryOf(t, "SharesExplain", args, spare-1, func() [][]int {
		first, _ := impl.SharesExplain(5, a)
		second, _ := impl.SharesExplain(5, a)
		return [][]int{first, second}
	})
	wantOwnMemoryOf(t, "SharesJoin", args, spare-1, func() [][]int {
		secret, _ := impl.SharesJoin(a)
		return [][]int{{secret}}
	})
}
