package tests

import (
	"fmt"
	"math"
	"slices"
	"testing"

	"loop.example/underveil/impl"
)

// thing is what comes to a place: from which index, and with which blind in all.
type thing struct {
	from, blind int
}

// thingsInOrder returns n things that are at their places, with blinds 0.
func thingsInOrder(n int) []thing {
	list := make([]thing, n)
	for i := range list {
		list[i].from = i
	}
	return list
}

// moved reckons where things come by mixings, one behind the other.
func moved(n int, mixings ...impl.Mixing) []thing {
	list := thingsInOrder(n)
	for _, m := range mixings {
		next := make([]thing, n)
		for place, from := range m.From {
			next[place] = thing{list[from].from, (list[from].blind + m.Blinds[place]) % 113}
		}
		list = next
	}
	return list
}

// mixingOf returns the mixing that moves things so.
func mixingOf(list []thing) impl.Mixing {
	m := impl.Mixing{}
	for _, x := range list {
		m.From, m.Blinds = append(m.From, x.from), append(m.Blinds, x.blind)
	}
	return m
}

// shuffled reckons the list that comes of another one by a mixing for the key of a secret.
func (table elementTable) shuffled(secret int, list []impl.Pair, m impl.Mixing) []impl.Pair {
	next := make([]impl.Pair, len(list))
	for place, x := range moved(len(list), m) {
		p := list[x.from]
		next[place] = impl.Pair{A: table.powers[4][(table.logs[p.A]+x.blind)%113], B: table.powers[4][(table.logs[p.B]+secret*x.blind)%113]}
	}
	return next
}

// openedSorted reckons what pairs are opened to, sorted.
func (table elementTable) openedSorted(secret int, list []impl.Pair) []int {
	var ms []int
	for _, p := range list {
		ms = append(ms, table.opened(secret, p))
	}
	slices.Sort(ms)
	return ms
}

func sameMixing(a, b impl.Mixing) bool {
	return slices.Equal(a.From, b.From) && slices.Equal(a.Blinds, b.Blinds)
}

func clonedMixing(m impl.Mixing) impl.Mixing {
	return impl.Mixing{From: slices.Clone(m.From), Blinds: slices.Clone(m.Blinds)}
}

// orders returns all orders of 0 to n-1.
func orders(n int) [][]int {
	if n == 0 {
		return [][]int{{}}
	}
	var list [][]int
	for _, order := range orders(n - 1) {
		for at := range n {
			list = append(list, slices.Insert(slices.Clone(order), at, n-1))
		}
	}
	return list
}

// drawnOrder returns 0 to n-1 in an order that is drawn.
func drawnOrder(draw func(int) int, n int) []int {
	list := allNumbers()[:n]
	for i := range list {
		j := i + draw(n-i)
		list[i], list[j] = list[j], list[i]
	}
	return list
}

// someMixings returns mixings of n things: ones that leave all at their places, turn all round or move all on, with blinds of 0 and of the greatest number, and drawn ones.
func someMixings(draw func(int) int, n int) []impl.Mixing {
	same := allNumbers()[:n]
	var list []impl.Mixing
	for _, from := range [][]int{same, reversed(same), append(slices.Clone(same[1:]), 0), drawnOrder(draw, n)} {
		for _, blinds := range [][]int{make([]int, n), slices.Repeat([]int{112}, n), drawnList(draw, n)} {
			list = append(list, impl.Mixing{From: from, Blinds: blinds})
		}
	}
	for range 4 {
		list = append(list, impl.Mixing{From: drawnOrder(draw, n), Blinds: drawnList(draw, n)})
	}
	return list
}

// drawnMixing returns one of someMixings.
func drawnMixing(draw func(int) int, n int) impl.Mixing {
	return someMixings(draw, n)[draw(16)]
}

// notMixings returns what are no mixings of n things, 1 to 6.
func notMixings(draw func(int) int, n int) []impl.Mixing {
	list := []impl.Mixing{{}, {From: []int{}, Blinds: []int{}}, {Blinds: make([]int, n)}, {From: allNumbers()[:n]}}
	m := drawnMixing(draw, n)
	for _, other := range []int{1, 2, 3, 4, 5, 6, 7, 8, 113} {
		if other != n {
			x := impl.Mixing{From: drawnOrder(draw, other), Blinds: drawnList(draw, other)}
			list = append(list, x, impl.Mixing{From: m.From, Blinds: x.Blinds}, impl.Mixing{From: x.From, Blinds: m.Blinds})
		}
	}
	for i := range n {
		for _, bad := range append(extremes(), n, n+1, 6, m.From[i]+113, m.From[(i+1)%n]) {
			if bad == m.From[i] {
				continue
			}
			wrong := clonedMixing(m)
			wrong.From[i] = bad
			list = append(list, wrong)
		}
		for _, bad := range append(extremes(), m.Blinds[i]+113, m.Blinds[i]-113) {
			wrong := clonedMixing(m)
			wrong.Blinds[i] = bad
			list = append(list, wrong)
		}
	}
	return list
}

// somePairLists returns lists of n pairs: of 1 and 1, of one pair only, of numbers sealed for the key of a secret, and drawn ones.
func somePairLists(draw func(int) int, table elementTable, secret, n int) [][]impl.Pair {
	all := allPairs()
	sealed, drawn, twice := make([]impl.Pair, n), make([]impl.Pair, n), make([]impl.Pair, n)
	for i := range n {
		sealed[i] = sealing{secret, draw(113), draw(113)}.pair(table)
		drawn[i] = all[draw(len(all))]
		twice[i] = drawn[draw(i+1)]
	}
	return [][]impl.Pair{slices.Repeat([]impl.Pair{{A: 1, B: 1}}, n), slices.Repeat(sealed[:1], n), sealed, drawn, twice}
}

// notPairLists returns what are not as many pairs of elements: none, seven, one more or less, or one of what is no element.
func notPairLists(list []impl.Pair) [][]impl.Pair {
	bad := [][]impl.Pair{nil, {}, list[1:], append(slices.Clone(list), list[0]), slices.Repeat(list[:1], 7), slices.Repeat(list[:1], 1000)}
	for i, p := range list {
		for _, q := range append(nearPairs(p), impl.Pair{}, impl.Pair{A: 2, B: p.B}, impl.Pair{A: p.A, B: 226}, impl.Pair{A: math.MinInt, B: p.B}, impl.Pair{A: p.A, B: math.MaxInt}) {
			wrong := slices.Clone(list)
			wrong[i] = q
			bad = append(bad, wrong)
		}
	}
	return bad
}

// notBits are what are neither 0 nor 1.
func notBits() []int { return append(extremes(), 2, 3) }

func shuffle(t *testing.T, key int, list []impl.Pair, m impl.Mixing) []impl.Pair {
	t.Helper()
	next, ok := impl.Shuffle(key, list, m)
	if !ok || len(next) != len(list) {
		t.Fatalf("Shuffle(%d, %v, %v) is %v, %v", key, list, m, next, ok)
	}
	return next
}

// wantMixing fails the test unless a result is a mixing of n things and true; it returns the mixing.
func wantMixing(t *testing.T, name string, m impl.Mixing, ok bool, n int) impl.Mixing {
	t.Helper()
	if !ok || len(m.From) != n || len(m.Blinds) != n || !impl.MixingOk(m, n) {
		t.Fatalf("%s is %v, %v, no mixing of %d things", name, m, ok, n)
	}
	return m
}

// wantNoMixing fails the test unless a result is nothing and false.
func wantNoMixing(t *testing.T, name string, m impl.Mixing, ok bool) {
	t.Helper()
	if ok || len(m.From) != 0 || len(m.Blinds) != 0 {
		t.Errorf("%s is %v, %v, not nothing and false", name, m, ok)
	}
}

func mixingJoin(t *testing.T, a, b impl.Mixing) impl.Mixing {
	t.Helper()
	m, ok := impl.MixingJoin(a, b)
	return wantMixing(t, fmt.Sprintf("MixingJoin(%v, %v)", a, b), m, ok, len(a.From))
}

func mixingBack(t *testing.T, m impl.Mixing) impl.Mixing {
	t.Helper()
	back, ok := impl.MixingBack(m)
	return wantMixing(t, fmt.Sprintf("MixingBack(%v)", m), back, ok, len(m.From))
}

func shuffleTold(t *testing.T, whole, middle impl.Mixing, bit int) impl.Mixing {
	t.Helper()
	told, ok := impl.ShuffleTold(whole, middle, bit)
	return wantMixing(t, fmt.Sprintf("ShuffleTold(%v, %v, %d)", whole, middle, bit), told, ok, len(whole.From))
}

// shuffling is what is told of a shuffle: the secret of the key, the three lists, the whole mixing and that of the middle list.
type shuffling struct {
	secret              int
	first, last, middle []impl.Pair
	whole, between      impl.Mixing
}

// key reckons the key.
func (s shuffling) key(table elementTable) int { return table.powers[4][s.secret] }

// told reckons what is told for a bit: for 1, where the things of the middle list come from there, and what their blinds lack.
func (s shuffling) told(bit int) impl.Mixing {
	if bit == 0 {
		return s.between
	}
	n := len(s.first)
	before, after := moved(n, s.between), moved(n, s.whole)
	told := make([]thing, n)
	for place, x := range after {
		from := slices.IndexFunc(before, func(y thing) bool { return y.from == x.from })
		told[place] = thing{from, (x.blind + 113 - before[from].blind) % 113}
	}
	return mixingOf(told)
}

// good reckons whether what is told for a bit shows what it must, if all else is valid.
func (s shuffling) good(table elementTable, bit int, told impl.Mixing) bool {
	if bit == 0 {
		return slices.Equal(table.shuffled(s.secret, s.first, told), s.middle)
	}
	return slices.Equal(table.shuffled(s.secret, s.middle, told), s.last)
}

// shuffleGood calls ShuffleGood.
func (s shuffling) shuffleGood(table elementTable, bit int, told impl.Mixing) bool {
	return impl.ShuffleGood(s.key(table), s.first, s.last, s.middle, bit, told)
}

// shuffleWhole calls ShuffleWhole.
func (s shuffling) shuffleWhole(table elementTable, a, b impl.Mixing) (impl.Mixing, bool) {
	return impl.ShuffleWhole(s.key(table), s.first, s.last, s.middle, a, b)
}

// someShufflings returns lists of 1 to 6 things for keys, the key 1 among them, shuffled by two mixings.
func someShufflings(draw func(int) int, table elementTable) []shuffling {
	var list []shuffling
	for n := 1; n <= 6; n++ {
		for _, secret := range edgeNumbers(draw) {
			for _, first := range somePairLists(draw, table, secret, n) {
				for range 3 {
					s := shuffling{secret: secret, first: first, whole: drawnMixing(draw, n), between: drawnMixing(draw, n)}
					s.last, s.middle = table.shuffled(secret, first, s.whole), table.shuffled(secret, first, s.between)
					list = append(list, s)
				}
			}
		}
	}
	return list
}

// P127: of each order of 1 to 6 things.
func TestMixingBackLeadsEachThingToItsPlace(t *testing.T) {
	draw := draws(127)
	for n := 1; n <= 6; n++ {
		list := someMixings(draw, n)
		for _, from := range orders(n) {
			list = append(list, impl.Mixing{From: from, Blinds: drawnList(draw, n)})
		}
		for _, m := range list {
			back := mixingBack(t, m)
			if got := moved(n, m, back); !slices.Equal(got, thingsInOrder(n)) {
				t.Errorf("MixingBack(%v) is %v, which leads to %v", m, back, got)
			}
			for _, got := range []impl.Mixing{mixingJoin(t, m, back), mixingJoin(t, back, m)} {
				if !sameMixing(got, mixingOf(thingsInOrder(n))) {
					t.Errorf("MixingJoin of %v and MixingBack is %v", m, got)
				}
			}
		}
	}
}

// P127: of all lists of 1 to 6 indexes, those are mixings that have each one once.
func TestMixingOkOfAllLists(t *testing.T) {
	for n := 1; n <= 6; n++ {
		fine := map[string]bool{}
		for _, order := range orders(n) {
			fine[fmt.Sprint(order)] = true
		}
		many, from := 1, make([]int, n)
		for range n {
			many *= n
		}
		for k := range many {
			for i := range from {
				from[i], k = k%n, k/n
			}
			if got := impl.MixingOk(impl.Mixing{From: from, Blinds: make([]int, n)}, n); got != fine[fmt.Sprint(from)] {
				t.Errorf("MixingOk of %v is %v", from, got)
			}
		}
	}
}

// P127: of each number of things, and of what is no mixing of as many.
func TestMixingOkOfAsManyThings(t *testing.T) {
	draw := draws(1270)
	for n := 1; n <= 6; n++ {
		for _, m := range someMixings(draw, n) {
			for _, many := range append(extremes(), 0, 1, 2, 3, 4, 5, 6, 7, 8) {
				if got := impl.MixingOk(m, many); got != (many == n) {
					t.Errorf("MixingOk(%v, %d) is %v", m, many, got)
				}
			}
		}
		for _, bad := range notMixings(draw, n) {
			if impl.MixingOk(bad, n) {
				t.Errorf("MixingOk(%v, %d) is true", bad, n)
			}
		}
	}
	for _, n := range []int{0, 7, 8, 113, 1000} {
		m := impl.Mixing{From: make([]int, n), Blinds: make([]int, n)}
		for i := range n {
			m.From[i] = i
		}
		if impl.MixingOk(m, n) || impl.MixingOk(m, 6) || impl.MixingOk(m, -n) {
			t.Errorf("MixingOk of %d things is true", n)
		}
	}
	if impl.MixingOk(impl.Mixing{}, 0) {
		t.Error("MixingOk of no things is true")
	}
}

// P128: each place has just the thing that the mixing says, sealed anew.
func TestSealOpenOfWhatIsShuffled(t *testing.T) {
	draw := draws(128)
	table := tableOfElements()
	for n := 1; n <= 6; n++ {
		for _, key := range edgeElements(draw) {
			secret := elementLog(t, key)
			for _, list := range somePairLists(draw, table, secret, n) {
				for _, m := range someMixings(draw, n) {
					next := shuffle(t, key, list, m)
					if want := table.shuffled(secret, list, m); !slices.Equal(next, want) {
						t.Errorf("Shuffle(%d, %v, %v) is %v, not %v", key, list, m, next, want)
					}
					for place, from := range m.From {
						if sealOpen(t, secret, next[place]) != sealOpen(t, secret, list[from]) || next[place] != sealAgain(t, key, list[from], m.Blinds[place]) {
							t.Errorf("Shuffle(%d, %v, %v) is %v, which is not the thing %d at %d", key, list, m, next, from, place)
						}
					}
				}
			}
		}
	}
}

// P128: a mixing that leaves all at their places with blinds 0 leaves the list as it is.
func TestShuffleThatLeavesAllAtTheirPlaces(t *testing.T) {
	draw := draws(1280)
	table := tableOfElements()
	for n := 1; n <= 6; n++ {
		for _, list := range somePairLists(draw, table, 5, n) {
			same := allNumbers()[:n]
			if got := shuffle(t, 116, list, impl.Mixing{From: same, Blinds: make([]int, n)}); !slices.Equal(got, list) {
				t.Errorf("%v is shuffled to %v", list, got)
			}
			if got := shuffle(t, 116, list, impl.Mixing{From: reversed(same), Blinds: make([]int, n)}); !slices.Equal(got, reversed(list)) {
				t.Errorf("%v is turned round to %v", list, got)
			}
		}
	}
}

// P128: of keys and pairs that are not of elements, of no pairs and seven, and of what is no mixing of as many.
func TestShuffleIsToldJustOfPairsAndMixings(t *testing.T) {
	draw := draws(1281)
	table := tableOfElements()
	wantNone := func(key int, list []impl.Pair, m impl.Mixing) {
		t.Helper()
		if next, ok := impl.Shuffle(key, list, m); ok || len(next) != 0 {
			t.Errorf("Shuffle(%d, %v, %v) is %v, %v", key, list, m, next, ok)
		}
	}
	for n := 1; n <= 6; n++ {
		for _, list := range somePairLists(draw, table, 5, n) {
			m := drawnMixing(draw, n)
			for _, bad := range notElements() {
				wantNone(bad, list, m)
			}
			for _, bad := range notPairLists(list) {
				wantNone(116, bad, m)
				wantNone(1, bad, m)
			}
			for _, bad := range notMixings(draw, n) {
				wantNone(116, list, bad)
				wantNone(1, list, bad)
			}
		}
	}
	for _, n := range []int{0, 7, 8, 1000} {
		list, m := slices.Repeat([]impl.Pair{{A: 1, B: 1}}, n), impl.Mixing{From: make([]int, n), Blinds: make([]int, n)}
		for i := range n {
			m.From[i] = i
		}
		wantNone(116, list, m)
	}
	wantNone(116, nil, impl.Mixing{})
	wantNone(0, nil, impl.Mixing{})
}

// P129: of each two of some mixings, and of all orders of up to four things.
func TestShuffleByMixingJoinIsShuffleByBoth(t *testing.T) {
	draw := draws(129)
	table := tableOfElements()
	wantJoined := func(a, b impl.Mixing) impl.Mixing {
		t.Helper()
		both := mixingJoin(t, a, b)
		if want := mixingOf(moved(len(a.From), a, b)); !sameMixing(both, want) {
			t.Errorf("MixingJoin(%v, %v) is %v, not %v", a, b, both, want)
		}
		return both
	}
	for n := 1; n <= 6; n++ {
		for _, a := range someMixings(draw, n) {
			for _, b := range someMixings(draw, n) {
				both, secret := wantJoined(a, b), edgeNumbers(draw)[draw(6)]
				key := elementPow(t, 4, secret)
				for _, list := range somePairLists(draw, table, secret, n) {
					want := shuffle(t, key, shuffle(t, key, list, a), b)
					if got := shuffle(t, key, list, both); !slices.Equal(got, want) {
						t.Errorf("Shuffle(%d, %v, %v) is %v, and by %v and %v %v", key, list, both, got, a, b, want)
					}
				}
			}
		}
	}
	for n := 1; n <= 4; n++ {
		for _, one := range orders(n) {
			for _, other := range orders(n) {
				wantJoined(impl.Mixing{From: one, Blinds: drawnList(draw, n)}, impl.Mixing{From: other, Blinds: drawnList(draw, n)})
			}
		}
	}
}

// P127 and P129 to P131: of what is no mixing, and of two that are not of as many things.
func TestMixingsAreToldJustOfMixings(t *testing.T) {
	draw := draws(1290)
	wantNone := func(a, b impl.Mixing) {
		t.Helper()
		m, ok := impl.MixingJoin(a, b)
		wantNoMixing(t, fmt.Sprintf("MixingJoin(%v, %v)", a, b), m, ok)
		for _, bit := range []int{0, 1, 2} {
			m, ok = impl.ShuffleTold(a, b, bit)
			wantNoMixing(t, fmt.Sprintf("ShuffleTold(%v, %v, %d)", a, b, bit), m, ok)
		}
	}
	for n := 1; n <= 6; n++ {
		for _, bad := range notMixings(draw, n) {
			m := drawnMixing(draw, n)
			wantNone(m, bad)
			wantNone(bad, m)
			if !impl.MixingOk(bad, len(bad.From)) {
				wantNone(bad, bad)
				back, ok := impl.MixingBack(bad)
				wantNoMixing(t, fmt.Sprintf("MixingBack(%v)", bad), back, ok)
			}
		}
		for other := 1; other <= 6; other++ {
			if other != n {
				wantNone(drawnMixing(draw, n), drawnMixing(draw, other))
			}
		}
	}
	for _, n := range []int{0, 7, 8, 1000} {
		m := impl.Mixing{From: make([]int, n), Blinds: make([]int, n)}
		for i := range n {
			m.From[i] = i
		}
		wantNone(m, m)
		back, ok := impl.MixingBack(m)
		wantNoMixing(t, fmt.Sprintf("MixingBack of %d things", n), back, ok)
	}
	wantNone(impl.Mixing{}, impl.Mixing{})
}

// P130
func TestMixingBackOfMixingBackIsTheMixing(t *testing.T) {
	draw := draws(130)
	for n := 1; n <= 6; n++ {
		list := someMixings(draw, n)
		for _, from := range orders(n) {
			list = append(list, impl.Mixing{From: from, Blinds: drawnList(draw, n)})
		}
		for _, m := range list {
			if again := mixingBack(t, mixingBack(t, m)); !sameMixing(again, m) {
				t.Errorf("MixingBack of MixingBack(%v) is %v", m, again)
			}
		}
	}
}

// P131: what is told for 1 leads from the middle list to the last one.
func TestShuffleToldIsTheWayOnFromTheMiddle(t *testing.T) {
	table := tableOfElements()
	for _, s := range someShufflings(draws(131), table) {
		for bit := range 2 {
			told := shuffleTold(t, s.whole, s.between, bit)
			if want := s.told(bit); !sameMixing(told, want) {
				t.Errorf("ShuffleTold(%v, %v, %d) is %v, not %v", s.whole, s.between, bit, told, want)
			}
		}
		if got := mixingJoin(t, shuffleTold(t, s.whole, s.between, 0), shuffleTold(t, s.whole, s.between, 1)); !sameMixing(got, s.whole) {
			t.Errorf("what is told of %v and %v comes to %v", s.whole, s.between, got)
		}
	}
}

// P131: for another whole mixing, the middle one by which the same is told.
func TestTheSameIsToldForAnotherWholeMixing(t *testing.T) {
	draw := draws(1310)
	for n := 1; n <= 6; n++ {
		for _, whole := range someMixings(draw, n) {
			for _, other := range someMixings(draw, n) {
				middle := drawnMixing(draw, n)
				if got := shuffleTold(t, other, middle, 0); !sameMixing(got, middle) || !sameMixing(shuffleTold(t, whole, middle, 0), middle) {
					t.Errorf("ShuffleTold(%v, %v, 0) is %v", other, middle, got)
				}
				told := shuffleTold(t, whole, middle, 1)
				same := mixingJoin(t, other, mixingBack(t, told))
				if got := shuffleTold(t, other, same, 1); !sameMixing(got, told) {
					t.Errorf("ShuffleTold(%v, %v, 1) is %v, and of %v and %v %v", whole, middle, told, other, same, got)
				}
			}
		}
	}
}

// P131: just one middle mixing of all there are of one thing, and of two.
func TestJustOneMiddleMixingTellsTheSame(t *testing.T) {
	draw := draws(1311)
	for n := 1; n <= 2; n++ {
		for range 3 {
			told, other, many := drawnMixing(draw, n), drawnMixing(draw, n), 0
			for _, from := range orders(n) {
				for _, a := range allNumbers() {
					for b := range 1 + 112*(n-1) {
						middle := impl.Mixing{From: from, Blinds: []int{a, b}[:n]}
						many += oneIf(sameMixing(shuffleTold(t, other, middle, 1), told))
					}
				}
			}
			if many != 1 {
				t.Errorf("%d middle mixings tell %v for %v", many, told, other)
			}
		}
	}
}

// P131: of what is no bit.
func TestShuffleToldIsToldJustForBits(t *testing.T) {
	draw := draws(1312)
	for n := 1; n <= 6; n++ {
		for _, bad := range notBits() {
			told, ok := impl.ShuffleTold(drawnMixing(draw, n), drawnMixing(draw, n), bad)
			wantNoMixing(t, fmt.Sprintf("ShuffleTold for %d", bad), told, ok)
		}
	}
}

// wantShown fails the test unless ShuffleGood is as reckoned, and both lists seal the same numbers, sorted, if it holds; it returns it.
func wantShown(t *testing.T, table elementTable, s shuffling, bit int, told impl.Mixing) bool {
	t.Helper()
	got := s.shuffleGood(table, bit, told)
	if got != s.good(table, bit, told) {
		t.Errorf("ShuffleGood of %v for %d and %v is %v", s, bit, told, got)
	}
	from, to := s.first, s.middle
	if bit == 1 {
		from, to = s.middle, s.last
	}
	if got && !slices.Equal(table.openedSorted(s.secret, from), table.openedSorted(s.secret, to)) {
		t.Errorf("ShuffleGood of %v for %d and %v holds, and the numbers differ", s, bit, told)
	}
	return got
}

// P132: of what is told, and of what is told for the other bit, which fits by chance only.
func TestShuffleGoodHoldsOfShuffleTold(t *testing.T) {
	draw := draws(132)
	table := tableOfElements()
	fits, all := 0, 0
	for _, s := range someShufflings(draw, table) {
		for bit := range 2 {
			if told := shuffleTold(t, s.whole, s.between, bit); !wantShown(t, table, s, bit, told) {
				t.Errorf("ShuffleGood of %v for %d and %v is false", s, bit, told)
			}
			other := shuffleTold(t, s.whole, s.between, 1-bit)
			fits, all = fits+oneIf(wantShown(t, table, s, bit, other)), all+1
			drawn := drawnMixing(draw, len(s.first))
			wantShown(t, table, s, bit, drawn)
			for _, bad := range notBits() {
				if s.shuffleGood(table, bad, s.told(bit)) {
					t.Errorf("ShuffleGood of %v for the bit %d is true", s, bad)
				}
			}
		}
	}
	if fits == 0 || fits > all/2 {
		t.Errorf("what is told for the other bit is good %d times of %d", fits, all)
	}
}

// P132: of a mixing with another blind, or two things exchanged, which is noticed unless they are the same.
func TestShuffleGoodOfAMixingThatIsChanged(t *testing.T) {
	draw := draws(1320)
	table := tableOfElements()
	exchanged := 0
	for _, s := range someShufflings(draw, table) {
		for bit := range 2 {
			right := s.told(bit)
			for i := range right.From {
				wrong := clonedMixing(right)
				wrong.Blinds[i] = (wrong.Blinds[i] + 1 + draw(112)) % 113
				if wantShown(t, table, s, bit, wrong) {
					t.Errorf("ShuffleGood of %v for %d and %v is true, and of %v", s, bit, wrong, right)
				}
				for j := range i {
					wrong = clonedMixing(right)
					wrong.From[i], wrong.From[j] = right.From[j], right.From[i]
					exchanged += oneIf(wantShown(t, table, s, bit, wrong))
					wrong.Blinds[i], wrong.Blinds[j] = right.Blinds[j], right.Blinds[i]
					wantShown(t, table, s, bit, wrong)
				}
			}
		}
	}
	if exchanged < 100 {
		t.Errorf("two things are the same just %d times", exchanged)
	}
}

// P132: of lists in which one thing, or the order, is changed, or that seal another number; the list that a bit does not speak of may be any.
func TestShuffleGoodOfListsThatAreChanged(t *testing.T) {
	draw, all := draws(1321), allPairs()
	table := tableOfElements()
	for _, s := range someShufflings(draw, table) {
		lists := [][]impl.Pair{s.first, s.last, s.middle}
		for which, list := range lists {
			for i, p := range list {
				for _, q := range []impl.Pair{{A: p.A * 4 % 227, B: p.B}, {A: p.A, B: p.B * 4 % 227}, all[draw(len(all))], list[draw(len(list))]} {
					changed := slices.Clone(lists)
					changed[which] = slices.Clone(list)
					changed[which][i] = q
					x := shuffling{s.secret, changed[0], changed[1], changed[2], s.whole, s.between}
					for bit := range 2 {
						got := wantShown(t, table, x, bit, s.told(bit))
						if want := q == p || which == 1-bit; got != want {
							t.Errorf("ShuffleGood of %v for %d and %v is %v", x, bit, s.told(bit), got)
						}
					}
				}
			}
			changed := slices.Clone(lists)
			changed[which] = reversed(list)
			for bit := range 2 {
				wantShown(t, table, shuffling{s.secret, changed[0], changed[1], changed[2], s.whole, s.between}, bit, s.told(bit))
			}
		}
		other := s
		other.secret = edgeNumbers(draw)[draw(6)]
		for bit := range 2 {
			wantShown(t, table, other, bit, s.told(bit))
		}
	}
}

// P132 and P133: of lists that are not of elements, or not as long as each other, the one that a bit does not speak of too; and of keys that are no elements.
func TestShuffleGoodHoldsJustOfListsOfElements(t *testing.T) {
	draw := draws(1322)
	table := tableOfElements()
	wantNone := func(key int, first, last, middle []impl.Pair, s shuffling) {
		t.Helper()
		for bit := range 2 {
			if impl.ShuffleGood(key, first, last, middle, bit, s.told(bit)) {
				t.Errorf("ShuffleGood(%d, %v, %v, %v, %d, %v) is true", key, first, last, middle, bit, s.told(bit))
			}
		}
		whole, ok := impl.ShuffleWhole(key, first, last, middle, s.told(0), s.told(1))
		wantNoMixing(t, fmt.Sprintf("ShuffleWhole(%d, %v, %v, %v)", key, first, last, middle), whole, ok)
	}
	for i, s := range someShufflings(draw, table) {
		if i%5 > 1 {
			continue
		}
		key := s.key(table)
		for _, bad := range append(extremes(), 0, 2, 3, 226, 227, 228, key+227, key-227, -key) {
			if !table.isElement(bad) {
				wantNone(bad, s.first, s.last, s.middle, s)
			}
		}
		for _, bad := range notPairLists(s.first) {
			wantNone(key, bad, s.last, s.middle, s)
		}
		for _, bad := range notPairLists(s.last) {
			wantNone(key, s.first, bad, s.middle, s)
		}
		for _, bad := range notPairLists(s.middle) {
			wantNone(key, s.first, s.last, bad, s)
		}
	}
	for _, n := range []int{0, 7, 8} {
		list, m := slices.Repeat([]impl.Pair{{A: 1, B: 1}}, n), mixingOf(thingsInOrder(n))
		wantNone(1, list, list, list, shuffling{first: list, whole: m, between: m})
	}
	wantNone(1, nil, nil, nil, shuffling{})
}

// P132 and P133: of what is told that is no mixing of as many things.
func TestShuffleGoodHoldsJustOfMixings(t *testing.T) {
	draw := draws(1323)
	table := tableOfElements()
	for i, s := range someShufflings(draw, table) {
		if i%5 > 1 {
			continue
		}
		for _, bad := range notMixings(draw, len(s.first)) {
			if s.shuffleGood(table, 0, bad) || s.shuffleGood(table, 1, bad) {
				t.Errorf("ShuffleGood of %v and %v is true", s, bad)
			}
			whole, ok := s.shuffleWhole(table, bad, s.told(1))
			wantNoMixing(t, fmt.Sprintf("ShuffleWhole of %v and %v", s, bad), whole, ok)
			whole, ok = s.shuffleWhole(table, s.told(0), bad)
			wantNoMixing(t, fmt.Sprintf("ShuffleWhole of %v and %v", s, bad), whole, ok)
		}
	}
}

// P133: from what is told for both bits, also if it fits by chance only.
func TestShuffleByShuffleWholeIsTheLastList(t *testing.T) {
	draw := draws(133)
	table := tableOfElements()
	others := 0
	for _, s := range someShufflings(draw, table) {
		n := len(s.first)
		right := []impl.Mixing{s.told(0), s.told(1)}
		swapped := []impl.Mixing{clonedMixing(right[0]), clonedMixing(right[1])}
		i, j := draw(n), draw(n)
		for _, m := range swapped {
			m.From[i], m.From[j] = m.From[j], m.From[i]
		}
		for _, a := range []impl.Mixing{right[0], swapped[0], right[1], drawnMixing(draw, n)} {
			for _, b := range []impl.Mixing{right[1], swapped[1], right[0], drawnMixing(draw, n)} {
				whole, ok := s.shuffleWhole(table, a, b)
				if !s.good(table, 0, a) || !s.good(table, 1, b) {
					wantNoMixing(t, fmt.Sprintf("ShuffleWhole of %v and %v, %v", s, a, b), whole, ok)
					continue
				}
				wantMixing(t, fmt.Sprintf("ShuffleWhole of %v and %v, %v", s, a, b), whole, ok, n)
				if want := mixingOf(moved(n, a, b)); !sameMixing(whole, want) || !slices.Equal(shuffle(t, s.key(table), s.first, whole), s.last) {
					t.Errorf("ShuffleWhole of %v and %v, %v is %v, not %v", s, a, b, whole, want)
				}
				others += oneIf(!sameMixing(whole, s.whole))
			}
		}
		if whole, ok := s.shuffleWhole(table, right[0], right[1]); !ok || !sameMixing(whole, s.whole) {
			t.Errorf("ShuffleWhole of %v is %v, %v", s, whole, ok)
		}
	}
	if others < 100 {
		t.Errorf("ShuffleWhole is another mixing than the one drawn just %d times", others)
	}
}

// P127 to P133, with answers reckoned by hand.
func TestShufflesReckonedByHand(t *testing.T) {
	whole, middle := impl.Mixing{From: []int{2, 0, 1}, Blinds: []int{1, 2, 3}}, impl.Mixing{From: []int{1, 0, 2}, Blinds: []int{10, 20, 112}}
	for _, c := range []struct {
		name      string
		got, want impl.Mixing
	}{
		{"MixingBack of the whole one", mixingBack(t, whole), impl.Mixing{From: []int{1, 2, 0}, Blinds: []int{111, 110, 112}}},
		{"MixingBack of the middle one", mixingBack(t, middle), impl.Mixing{From: []int{1, 0, 2}, Blinds: []int{93, 103, 1}}},
		{"MixingJoin", mixingJoin(t, whole, middle), impl.Mixing{From: []int{0, 2, 1}, Blinds: []int{12, 21, 2}}},
		{"MixingJoin in the other order", mixingJoin(t, middle, whole), impl.Mixing{From: []int{2, 1, 0}, Blinds: []int{0, 12, 23}}},
		{"ShuffleTold for 0", shuffleTold(t, whole, middle, 0), middle},
		{"ShuffleTold for 1", shuffleTold(t, whole, middle, 1), impl.Mixing{From: []int{2, 1, 0}, Blinds: []int{2, 95, 106}}},
	} {
		if !sameMixing(c.got, c.want) {
			t.Errorf("%s is %v, not %v", c.name, c.got, c.want)
		}
	}
	first := []impl.Pair{{A: 1, B: 1}, {A: 4, B: 9}, {A: 9, B: 16}}
	last := []impl.Pair{{A: 36, B: 29}, {A: 16, B: 29}, {A: 29, B: 90}} // for the key 16: 9 times 4 and 16 times 16, 16 and 256, 4 times 64 and 9 times 4096, which is 10
	if got := shuffle(t, 16, first, whole); !slices.Equal(got, last) {
		t.Errorf("%v is shuffled to %v, not %v", first, got, last)
	}
	if got := shuffle(t, 1, first, whole); !slices.Equal(got, []impl.Pair{{A: 36, B: 16}, {A: 16, B: 1}, {A: 29, B: 9}}) {
		t.Errorf("%v is shuffled for the key 1 to %v", first, got)
	}
	between := shuffle(t, 16, first, middle)
	if !impl.ShuffleGood(16, first, last, between, 0, middle) || !impl.ShuffleGood(16, first, last, between, 1, impl.Mixing{From: []int{2, 1, 0}, Blinds: []int{2, 95, 106}}) || impl.ShuffleGood(16, first, last, between, 1, whole) {
		t.Errorf("ShuffleGood of %v, %v and %v is not as it must be", first, last, between)
	}
}

// mixingWithSpare returns a copy with room for more behind both lists.
func mixingWithSpare(m impl.Mixing) impl.Mixing {
	return impl.Mixing{From: withSpare(m.From), Blinds: withSpare(m.Blinds)}
}

// wantMixingsKept fails the test if one of the functions that tell mixings does not keep the rules on memory. Each is called twice, so that both results are held against each other, and both lists of each too.
func wantMixingsKept(t *testing.T, table elementTable, s shuffling) {
	t.Helper()
	lists := [][]int{s.whole.From, s.whole.Blinds, s.between.From, s.between.Blinds}
	pairs := [][]impl.Pair{s.first, s.last, s.middle}
	calls := map[string]func() (impl.Mixing, bool){
		"MixingJoin":        func() (impl.Mixing, bool) { return impl.MixingJoin(s.whole, s.between) },
		"MixingBack":        func() (impl.Mixing, bool) { return impl.MixingBack(s.whole) },
		"ShuffleTold for 0": func() (impl.Mixing, bool) { return impl.ShuffleTold(s.whole, s.between, 0) },
		"ShuffleTold for 1": func() (impl.Mixing, bool) { return impl.ShuffleTold(s.whole, s.between, 1) },
		"ShuffleWhole":      func() (impl.Mixing, bool) { return s.shuffleWhole(table, s.whole, s.between) },
	}
	for name, call := range calls {
		twice := func() [][]int {
			first, ok := call()
			second, _ := call()
			good := []bool{ok, impl.MixingOk(s.whole, len(s.first)), s.shuffleGood(table, 0, s.whole), s.shuffleGood(table, 1, s.between)}
			return [][]int{first.From, first.Blinds, second.From, second.Blinds, {oneIf(good[0]), oneIf(good[1]), oneIf(good[2]), oneIf(good[3])}}
		}
		wantOwnMemory(t, name, lists, twice)
		wantOwnMemoryOf(t, name, pairs, spare-1, twice)
	}
	mark := impl.Pair{A: spare - 1, B: spare - 1}
	twice := func() [][]impl.Pair {
		first, _ := impl.Shuffle(s.key(table), s.first, s.whole)
		second, _ := impl.Shuffle(s.key(table), s.first, s.whole)
		return [][]impl.Pair{first, second}
	}
	wantOwnMemoryOf(t, "Shuffle", lists, mark, twice)
	wantOwnMemoryOf(t, "Shuffle", pairs, mark, twice)
}

// P127 to P133: the general rules on memory, also if several arguments are in the same memory. ShuffleWhole gets what is told for both bits, and what is not good.
func TestShufflesOwnTheirMemory(t *testing.T) {
	draw := draws(1330)
	table := tableOfElements()
	mark := impl.Pair{A: spare, B: spare}
	for i, s := range someShufflings(draw, table) {
		if i%4 > 0 {
			continue
		}
		s.first, s.last, s.middle = withRoom(s.first, mark), withRoom(s.last, mark), withRoom(s.middle, mark)
		good := s
		good.whole, good.between = mixingWithSpare(s.told(0)), mixingWithSpare(s.told(1))
		wantMixingsKept(t, table, good)
		s.whole, s.between = mixingWithSpare(s.whole), mixingWithSpare(notMixings(draw, len(s.first))[draw(40)])
		wantMixingsKept(t, table, s)
		same := withSpare(drawnOrder(draw, len(s.first)))
		s.whole = impl.Mixing{From: same, Blinds: same}
		s.between, s.last, s.middle = s.whole, s.first, s.first
		wantMixingsKept(t, table, s)
	}
	wantMixingsKept(t, table, shuffling{})
}

// P127 to P133: what was told before does not count, nor what is told at the same time.
func TestShufflesKeepNoState(t *testing.T) {
	table := tableOfElements()
	atTheSameTime(1331, func(draw func(int) int) {
		list := someShufflings(draw, table)
		for range 2 {
			for _, s := range list {
				impl.Shuffle(0, s.first, s.whole)
				impl.MixingJoin(s.whole, impl.Mixing{})
				last, ok := impl.Shuffle(s.key(table), s.first, s.whole)
				told, fine := impl.ShuffleTold(s.whole, s.between, 1)
				whole, joined := s.shuffleWhole(table, s.between, told)
				if !ok || !fine || !joined || !slices.Equal(last, s.last) || !sameMixing(told, s.told(1)) || !sameMixing(whole, s.whole) {
					t.Errorf("of %v there are %v, %v and %v", s, last, told, whole)
				}
			}
			slices.Reverse(list)
		}
	})
}
