package tests

import (
	"fmt"
	"slices"
	"testing"

	"loop.example/underveil/impl"
)

// sealing is the secret of a key, a number and a blind.
type sealing struct {
	secret, m, blind int
}

// key reckons the key.
func (s sealing) key(table elementTable) int { return table.powers[4][s.secret] }

// pair reckons the number sealed, by the exponents that its elements have for the base 4.
func (s sealing) pair(table elementTable) impl.Pair {
	return impl.Pair{A: table.powers[4][s.blind], B: table.powers[4][(s.m+s.secret*s.blind)%113]}
}

// opened reckons what a pair is opened to.
func (table elementTable) opened(secret int, p impl.Pair) int {
	return (table.logs[p.B] + 113*113 - secret*table.logs[p.A]) % 113
}

// joined reckons what a pair is opened to by parts.
func (table elementTable) joined(p impl.Pair, parts []impl.Point) int {
	logs := slices.Clone(parts)
	for i := range logs {
		logs[i].Y = table.logs[logs[i].Y]
	}
	return (table.logs[p.B] + 113 - joinReckoned(logs)) % 113
}

// parts reckons the parts of parties that have shares.
func (table elementTable) parts(p impl.Pair, shares []impl.Point) []impl.Point {
	list := slices.Clone(shares)
	for i := range list {
		list[i].Y = table.powers[p.A][list[i].Y]
	}
	return list
}

// someSealings returns all pairs of numbers as two of secret, number and blind, with some as the third one.
func someSealings(draw func(int) int) []sealing {
	var list []sealing
	for _, x := range someProvings(draw) {
		list = append(list, sealing{x.secret, x.nonce, x.chal})
	}
	return list
}

// fewSealings returns the least, the greatest and some drawn numbers as secret, number and blind.
func fewSealings(draw func(int) int) []sealing {
	var list []sealing
	for _, x := range fewProvings(draw) {
		list = append(list, sealing{x.secret, x.nonce, x.chal})
	}
	return list
}

// allPairs returns all pairs of elements.
func allPairs() []impl.Pair {
	var list []impl.Pair
	for _, a := range allElements() {
		for _, b := range allElements() {
			list = append(list, impl.Pair{A: a, B: b})
		}
	}
	return list
}

// nearPairs returns pairs that are one of elements but for multiples of 227, or are what is no element with it.
func nearPairs(p impl.Pair) []impl.Pair {
	var list []impl.Pair
	for _, by := range []int{-227 << 40, -454, -227, 227, 454, 227 << 40} {
		list = append(list, impl.Pair{A: p.A + by, B: p.B}, impl.Pair{A: p.A, B: p.B + by}, impl.Pair{A: p.A + by, B: p.B + by})
	}
	return append(list, impl.Pair{A: -p.A, B: p.B}, impl.Pair{A: p.A, B: -p.B}, impl.Pair{A: 227 - p.A, B: p.B}, impl.Pair{A: p.A, B: 227 - p.B}, impl.Pair{A: 227 - p.A, B: 227 - p.B})
}

// wantPair fails the test unless a result is a pair of 1 to 226 and true; it returns the pair.
func wantPair(t *testing.T, name string, p impl.Pair, ok bool) impl.Pair {
	t.Helper()
	if !ok || p.A < 1 || p.A > 226 || p.B < 1 || p.B > 226 {
		t.Fatalf("%s is %v, %v", name, p, ok)
	}
	return p
}

// wantNoPair fails the test unless a result is zero values and false.
func wantNoPair(t *testing.T, name string, p impl.Pair, ok bool) {
	t.Helper()
	if ok || p != (impl.Pair{}) {
		t.Errorf("%s is %v, %v, not zero values and false", name, p, ok)
	}
}

func sealMake(t *testing.T, key, m, blind int) impl.Pair {
	t.Helper()
	p, ok := impl.SealMake(key, m, blind)
	return wantPair(t, fmt.Sprintf("SealMake(%d, %d, %d)", key, m, blind), p, ok)
}

func sealOpen(t *testing.T, secret int, p impl.Pair) int {
	t.Helper()
	m, ok := impl.SealOpen(secret, p)
	return wantNumber(t, fmt.Sprintf("SealOpen(%d, %v)", secret, p), m, ok)
}

func sealAdd(t *testing.T, p, q impl.Pair) impl.Pair {
	t.Helper()
	sum, ok := impl.SealAdd(p, q)
	return wantPair(t, fmt.Sprintf("SealAdd(%v, %v)", p, q), sum, ok)
}

func sealScale(t *testing.T, p impl.Pair, by int) impl.Pair {
	t.Helper()
	product, ok := impl.SealScale(p, by)
	return wantPair(t, fmt.Sprintf("SealScale(%v, %d)", p, by), product, ok)
}

func sealAgain(t *testing.T, key int, p impl.Pair, blind int) impl.Pair {
	t.Helper()
	again, ok := impl.SealAgain(key, p, blind)
	return wantPair(t, fmt.Sprintf("SealAgain(%d, %v, %d)", key, p, blind), again, ok)
}

func sealPart(t *testing.T, p impl.Pair, x proving) (int, impl.Twin) {
	t.Helper()
	part, proof, ok := impl.SealPart(p, x.secret, x.nonce, x.chal)
	return wantElement(t, fmt.Sprintf("SealPart(%v, %v)", p, x), part, ok), proof
}

func sealJoin(t *testing.T, p impl.Pair, parts []impl.Point) int {
	t.Helper()
	m, ok := impl.SealJoin(p, parts)
	return wantNumber(t, fmt.Sprintf("SealJoin(%v, %v)", p, parts), m, ok)
}

// P118: what is sealed is as the chapter says, for each key, number and blind.
func TestSealOpenOfSealMakeIsTheNumber(t *testing.T) {
	table := tableOfElements()
	for _, s := range someSealings(draws(118)) {
		key := s.key(table)
		p := sealMake(t, key, s.m, s.blind)
		if want := s.pair(table); p != want {
			t.Errorf("SealMake(%d, %d, %d) is %v, not %v", key, s.m, s.blind, p, want)
		}
		if m := sealOpen(t, elementLog(t, key), p); m != s.m {
			t.Errorf("SealOpen(%d, %v) is %d, not %d", s.secret, p, m, s.m)
		}
	}
}

// P118: another secret opens it to another number, unless the blind is 0.
func TestSealOpenWithAnotherSecret(t *testing.T) {
	table := tableOfElements()
	for _, s := range fewSealings(draws(1180)) {
		p := s.pair(table)
		for _, secret := range allNumbers() {
			got := sealOpen(t, secret, p)
			if got != table.opened(secret, p) || (got == s.m) != (secret == s.secret || s.blind == 0) {
				t.Errorf("SealOpen(%d, %v) is %d, for %v", secret, p, got, s)
			}
		}
	}
}

// P118: of keys that are no elements, and of what is no number.
func TestSealMakeIsToldJustOfElementsAndNumbers(t *testing.T) {
	wantNone := func(key, m, blind int) {
		t.Helper()
		p, ok := impl.SealMake(key, m, blind)
		wantNoPair(t, fmt.Sprintf("SealMake(%d, %d, %d)", key, m, blind), p, ok)
	}
	for _, bad := range notElements() {
		for _, a := range []int{0, 1, 112} {
			wantNone(bad, a, 5)
			wantNone(bad, 5, a)
		}
		wantNone(bad, 0, 0)
		wantNone(bad, bad, bad)
	}
	for _, bad := range notNumbers() {
		for _, key := range []int{1, 4, 9, 116} {
			for _, a := range []int{0, 1, 112} {
				wantNone(key, bad, a)
				wantNone(key, a, bad)
			}
			wantNone(key, bad, bad)
		}
	}
}

// P119: of each pair, whether it was sealed for the key or not.
func TestSealMakeOfSealOpenIsThePair(t *testing.T) {
	draw := draws(119)
	table := tableOfElements()
	for _, p := range allPairs() {
		for _, secret := range edgeNumbers(draw) {
			m := sealOpen(t, secret, p)
			if want := table.opened(secret, p); m != want {
				t.Errorf("SealOpen(%d, %v) is %d, not %d", secret, p, m, want)
			}
			if got := sealMake(t, elementPow(t, 4, secret), m, elementLog(t, p.A)); got != p {
				t.Errorf("SealOpen(%d, %v) is %d, of which SealMake is %v", secret, p, m, got)
			}
		}
	}
}

// P118 to P121: of pairs that are not of elements, and of what is no number.
func TestSealsAreToldJustOfElementsAndNumbers(t *testing.T) {
	wantNone := func(bad impl.Pair, a int) {
		t.Helper()
		m, ok := impl.SealOpen(a, bad)
		wantNothing(t, fmt.Sprintf("SealOpen(%d, %v)", a, bad), m, ok)
		p, ok := impl.SealScale(bad, a)
		wantNoPair(t, fmt.Sprintf("SealScale(%v, %d)", bad, a), p, ok)
	}
	fine := []impl.Pair{{A: 1, B: 1}, {A: 4, B: 9}, {A: 9, B: 4}, {A: 225, B: 225}, {A: 57, B: 1}}
	broken := notPairs()
	for _, p := range fine {
		broken = append(broken, nearPairs(p)...)
		for _, bad := range notNumbers() {
			wantNone(p, bad)
		}
	}
	for _, bad := range broken {
		for _, a := range []int{0, 1, 5, 112, -1, 113} {
			wantNone(bad, a)
		}
		for _, p := range append(fine, bad, impl.Pair{}) {
			sum, ok := impl.SealAdd(p, bad)
			wantNoPair(t, fmt.Sprintf("SealAdd(%v, %v)", p, bad), sum, ok)
			sum, ok = impl.SealAdd(bad, p)
			wantNoPair(t, fmt.Sprintf("SealAdd(%v, %v)", bad, p), sum, ok)
		}
	}
}

// P120: with any secret, whatever the pairs were sealed for.
func TestSealOpenOfSealAddIsNumAdd(t *testing.T) {
	draw := draws(120)
	table := tableOfElements()
	wantSum := func(p, q impl.Pair, secrets []int) {
		t.Helper()
		sum := sealAdd(t, p, q)
		if want := (impl.Pair{A: p.A * q.A % 227, B: p.B * q.B % 227}); sum != want {
			t.Errorf("SealAdd(%v, %v) is %v, not %v", p, q, sum, want)
		}
		for _, secret := range secrets {
			if got, want := sealOpen(t, secret, sum), add(t, sealOpen(t, secret, p), sealOpen(t, secret, q)); got != want {
				t.Errorf("SealOpen(%d, SealAdd(%v, %v)) is %d, not %d", secret, p, q, got, want)
			}
		}
	}
	for _, p := range somePairs(draw) {
		for _, q := range allPairs() {
			wantSum(p, q, []int{draw(113)})
		}
		for _, q := range somePairs(draw) {
			wantSum(p, q, allNumbers())
		}
	}
	for _, s := range fewSealings(draw) {
		other := sealing{s.secret, draw(113), draw(113)}
		sum := sealAdd(t, s.pair(table), other.pair(table))
		if want := (sealing{s.secret, (s.m + other.m) % 113, (s.blind + other.blind) % 113}).pair(table); sum != want {
			t.Errorf("SealAdd of %v and %v is %v, not %v", s, other, sum, want)
		}
	}
}

// P121: with any secret, among the numbers 0 and 1.
func TestSealOpenOfSealScaleIsNumMul(t *testing.T) {
	draw := draws(121)
	table := tableOfElements()
	for _, p := range somePairs(draw) {
		for _, by := range allNumbers() {
			product := sealScale(t, p, by)
			if want := table.power(p, by); product != want {
				t.Errorf("SealScale(%v, %d) is %v, not %v", p, by, product, want)
			}
			for _, secret := range allNumbers() {
				if got, want := sealOpen(t, secret, product), mul(t, sealOpen(t, secret, p), by); got != want {
					t.Errorf("SealOpen(%d, SealScale(%v, %d)) is %d, not %d", secret, p, by, got, want)
				}
			}
		}
		if zero, one := sealScale(t, p, 0), sealScale(t, p, 1); zero != (impl.Pair{A: 1, B: 1}) || one != p {
			t.Errorf("SealScale(%v) by 0 is %v, and by 1 %v", p, zero, one)
		}
	}
}

// P122: for each blind, and each number.
func TestSealAgainSealsTheSame(t *testing.T) {
	draw := draws(122)
	table := tableOfElements()
	for _, s := range someSealings(draw)[:60000] {
		key, p, blind := s.key(table), s.pair(table), []int{0, 112, draw(113), s.blind, (113 - s.blind) % 113}[draw(5)]
		want := sealing{s.secret, s.m, (s.blind + blind) % 113}.pair(table)
		again := sealAgain(t, key, p, blind)
		if again != want || sealOpen(t, elementLog(t, key), again) != s.m {
			t.Errorf("SealAgain(%d, %v, %d) is %v, not %v", key, p, blind, again, want)
		}
	}
	for _, s := range fewSealings(draw) {
		key := s.key(table)
		p := sealMake(t, key, s.m, s.blind)
		for _, blind := range allNumbers() {
			if got, want := sealAgain(t, key, p, sub(t, blind, s.blind)), sealMake(t, key, s.m, blind); got != want {
				t.Errorf("SealAgain of %v so that the blind is %d is %v, not %v", s, blind, got, want)
			}
		}
	}
}

// P122: of pairs that were sealed for another key, it opens to what they do.
func TestSealAgainOfEachPair(t *testing.T) {
	draw := draws(1220)
	for _, p := range allPairs() {
		key, blind := edgeElements(draw)[draw(7)], edgeNumbers(draw)[draw(6)]
		log := elementLog(t, key)
		again := sealAgain(t, key, p, blind)
		if again != sealAdd(t, p, sealMake(t, key, 0, blind)) || sealOpen(t, log, again) != sealOpen(t, log, p) {
			t.Errorf("SealAgain(%d, %v, %d) is %v", key, p, blind, again)
		}
	}
}

// P122: of keys and pairs that are not of elements, and of blinds that are no numbers.
func TestSealAgainIsToldJustOfElementsAndNumbers(t *testing.T) {
	wantNone := func(key int, p impl.Pair, blind int) {
		t.Helper()
		again, ok := impl.SealAgain(key, p, blind)
		wantNoPair(t, fmt.Sprintf("SealAgain(%d, %v, %d)", key, p, blind), again, ok)
	}
	fine := []impl.Pair{{A: 1, B: 1}, {A: 4, B: 9}, {A: 225, B: 57}}
	for _, p := range fine {
		for _, bad := range notElements() {
			wantNone(bad, p, 0)
			wantNone(bad, p, 112)
		}
		for _, bad := range notNumbers() {
			wantNone(1, p, bad)
			wantNone(116, p, bad)
			wantNone(bad, p, bad)
		}
		for _, bad := range append(notPairs(), nearPairs(p)...) {
			wantNone(1, bad, 0)
			wantNone(116, bad, 5)
			wantNone(0, bad, -1)
		}
	}
}

// P123: of each share, and for each A; B does not count, if it is an element.
func TestSealPartGoodHoldsOfSealPart(t *testing.T) {
	draw := draws(123)
	table := tableOfElements()
	wantGood := func(p impl.Pair, x proving) {
		t.Helper()
		part, proof := sealPart(t, p, x)
		if want := x.twin(table, impl.Pair{A: 4, B: p.A}); part != table.powers[p.A][x.secret] || proof != want {
			t.Errorf("SealPart(%v, %v) is %d, %v, not %d, %v", p, x, part, proof, table.powers[p.A][x.secret], want)
		}
		published := elementPow(t, 4, x.secret)
		for _, b := range []int{p.B, 1, 4, 225} {
			if !impl.SealPartGood(impl.Pair{A: p.A, B: b}, published, part, proof) {
				t.Errorf("SealPartGood(%v, %d, %d, %v) is false, with %d as B", p, published, part, proof, b)
			}
		}
	}
	for _, p := range somePairs(draw) {
		for _, x := range fewProvings(draw) {
			wantGood(p, x)
		}
		for _, a := range allNumbers() {
			wantGood(p, proving{a, draw(113), draw(113)})
			wantGood(p, proving{draw(113), a, draw(113)})
			wantGood(p, proving{draw(113), draw(113), a})
		}
	}
	for _, p := range allPairs() {
		wantGood(p, proving{draw(113), draw(113), draw(113)})
	}
}

// P123: of A and B that are no elements, and of what is no number.
func TestSealPartIsToldJustOfElementsAndNumbers(t *testing.T) {
	wantNone := func(p impl.Pair, x proving) {
		t.Helper()
		if part, proof, ok := impl.SealPart(p, x.secret, x.nonce, x.chal); ok || part != 0 || proof != (impl.Twin{}) {
			t.Errorf("SealPart(%v, %v) is %d, %v, %v", p, x, part, proof, ok)
		}
	}
	for _, p := range []impl.Pair{{A: 1, B: 1}, {A: 4, B: 9}, {A: 225, B: 1}} {
		for _, bad := range notThree() {
			wantNone(p, bad)
		}
		for _, bad := range append(notPairs(), nearPairs(p)...) {
			for _, x := range []proving{{0, 0, 0}, {5, 7, 3}, {112, 112, 112}, {1, -1, 113}} {
				wantNone(bad, x)
			}
		}
	}
}

// P123: each element that was published, each part and each A counts, as far as it does in what the chapter says.
func TestSealPartGoodOfOtherElements(t *testing.T) {
	draw := draws(1230)
	table := tableOfElements()
	some, all := 0, 0
	for _, p := range somePairs(draw) {
		for _, x := range fewProvings(draw) {
			part, proof := sealPart(t, p, x)
			published := table.powers[4][x.secret]
			for range 6 {
				g := allElements()[draw(113)]
				for _, c := range []struct {
					p               impl.Pair
					published, part int
					proof           impl.Twin
				}{
					{p, g, part, proof}, {p, published, g, proof}, {p, part, published, proof}, {impl.Pair{A: g, B: p.B}, published, part, proof}, {impl.Pair{A: p.B, B: p.A}, published, part, proof},
					{p, published, part, impl.Twin{ComA: proof.ComB, ComB: proof.ComA, Chal: proof.Chal, Resp: proof.Resp}}, {p, published, part, impl.Twin{ComA: proof.ComA, ComB: g, Chal: proof.Chal, Resp: proof.Resp}},
					{p, published, part, impl.Twin{ComA: proof.ComA, ComB: proof.ComB, Chal: draw(113), Resp: proof.Resp}}, {p, published, part, impl.Twin{ComA: proof.ComA, ComB: proof.ComB, Chal: proof.Chal, Resp: draw(113)}},
				} {
					got := impl.SealPartGood(c.p, c.published, c.part, c.proof)
					if got != table.goodTwin(impl.Pair{A: 4, B: c.p.A}, impl.Pair{A: c.published, B: c.part}, c.proof) {
						t.Errorf("SealPartGood(%v, %d, %d, %v) is %v", c.p, c.published, c.part, c.proof, got)
					}
					some, all = some+oneIf(got), all+1
				}
			}
		}
	}
	if some == 0 || some > all/2 {
		t.Errorf("of %d parts that are changed %d are good", all, some)
	}
}

// P123 and P124: of what is no element, B too, and of what is no number.
func TestSealPartGoodHoldsJustOfElementsAndNumbers(t *testing.T) {
	table := tableOfElements()
	wantNone := func(p impl.Pair, published, part int, proof impl.Twin) {
		t.Helper()
		if impl.SealPartGood(p, published, part, proof) {
			t.Errorf("SealPartGood(%v, %d, %d, %v) is true", p, published, part, proof)
		}
	}
	for _, p := range []impl.Pair{{A: 1, B: 1}, {A: 4, B: 9}, {A: 225, B: 57}} {
		for _, x := range []proving{{0, 0, 0}, {5, 7, 3}, {112, 112, 112}, {5, 0, 0}} {
			part, proof := sealPart(t, p, x)
			published := table.powers[4][x.secret]
			for _, bad := range append(notPairs(), nearPairs(p)...) {
				wantNone(bad, published, part, proof)
			}
			for _, bad := range notElements() {
				wantNone(impl.Pair{A: p.A, B: bad}, published, part, proof)
				wantNone(p, bad, part, proof)
				wantNone(p, published, bad, proof)
			}
			for _, by := range []int{-227 << 40, -227, 227, 454} {
				wantNone(p, published+by, part, proof)
				wantNone(p, published, part+by, proof)
			}
			for _, bad := range brokenTwins(proof) {
				wantNone(p, published, part, bad)
			}
			wantNone(p, published, part, impl.Twin{})
			wantNone(impl.Pair{}, 0, 0, proof)
		}
	}
}

// goodParts returns all challenges and responses with which SealPartGood holds for commitments.
func goodParts(p impl.Pair, published, part int, proof impl.Twin) []impl.Twin {
	var list []impl.Twin
	for _, proof.Chal = range allNumbers() {
		for _, proof.Resp = range allNumbers() {
			if impl.SealPartGood(p, published, part, proof) {
				list = append(list, proof)
			}
		}
	}
	return list
}

// P124: all challenges and responses. Of the right part, each challenge is good with one response; of another one, just one challenge is.
func TestSealPartGoodOfAWrongPartHoldsForNoOtherChallenge(t *testing.T) {
	draw := draws(124)
	table := tableOfElements()
	for _, p := range somePairs(draw) {
		for i, x := range slices.Concat(fewProvings(draw)[:3], []proving{{draw(113), draw(113), draw(113)}, {112, draw(113), draw(113)}}) {
			published, right := table.powers[4][x.secret], table.powers[p.A][x.secret]
			part := right * table.powers[4][[]int{1 + draw(112), 1, 112, 1 + draw(112), 0}[i]] % 227
			proof := twinFeign(t, impl.Pair{A: 4, B: p.A}, impl.Pair{A: published, B: part}, x.chal, x.nonce)
			list := goodParts(p, published, part, proof)
			if want := 1 + 112*oneIf(part == right); len(list) != want || !slices.Contains(list, proof) {
				t.Errorf("SealPartGood(%v, %d, %d) with the commitments of %v holds of %v", p, published, part, proof, list)
			}
		}
	}
}

// P125: in each order, of as many elements as parties there may be.
func TestSealJoinOfPartsInEachOrder(t *testing.T) {
	draw := draws(125)
	table := tableOfElements()
	for n := 1; n <= 7; n++ {
		for range 20 {
			p, parts := somePairs(draw)[draw(11)], drawnShares(draw, n, 7)
			for i := range parts {
				parts[i].Y = edgeElements(draw)[draw(7)]
			}
			want := table.joined(p, parts)
			if got := sealJoin(t, p, parts); got != want {
				t.Errorf("SealJoin(%v, %v) is %d, not %d", p, parts, got, want)
			}
			if got := sealJoin(t, p, reversed(parts)); got != want {
				t.Errorf("SealJoin(%v, %v) in the opposite order is %d, not %d", p, parts, got, want)
			}
			for i := range parts {
				if got := sealJoin(t, p, slices.Concat(parts[i:], parts[:i])); got != want {
					t.Errorf("SealJoin(%v, %v) from part %d on is %d, not %d", p, parts, i, got, want)
				}
			}
		}
	}
}

// P126: by all parties of which there are enough, just as many as needed and more, of one party and of seven.
func TestSealJoinOfEnoughPartsIsSealOpen(t *testing.T) {
	draw := draws(126)
	table := tableOfElements()
	just, more := 0, 0
	for i, g := range someGivings(draw) {
		p := append(somePairs(draw), sealing{g.secret, draw(113), draw(113)}.pair(table))[i%12]
		parts, want := table.parts(p, sharesOf(t, g)), sealOpen(t, g.secret, p)
		for set := 1; set < 1<<g.n; set++ {
			var some []impl.Point
			for j, part := range parts {
				if set>>j&1 == 1 {
					some = append(some, part)
				}
			}
			if len(some) <= len(g.tape) {
				continue
			}
			just, more = just+oneIf(len(some) == len(g.tape)+1), more+oneIf(len(some) > len(g.tape)+1)
			if got := sealJoin(t, p, some); got != want {
				t.Errorf("SealJoin(%v, %v) is %d, and SealOpen with the secret of %v is %d", p, some, got, g, want)
			}
		}
	}
	if just < 1000 || more < 1000 {
		t.Errorf("there are just %d times as many parts as needed, and %d times more", just, more)
	}
}

// P126: the whole way, from what was published to the number, with parts by SealPart; fewer parts, or a wrong one, lead elsewhere.
func TestSealJoinOfPartsThatAreShownToBeGood(t *testing.T) {
	draw := draws(1260)
	elsewhere := 0
	for _, g := range someGivings(draw) {
		if g.secret == 0 && len(g.tape) == 0 {
			continue
		}
		list := sharesOf(t, g)
		m, blind := draw(113), 1+draw(112)
		p := sealMake(t, elementPow(t, 4, g.secret), m, blind)
		parts := make([]impl.Point, g.n)
		for i, share := range list {
			published := elementPow(t, 4, share.Y)
			part, proof := sealPart(t, p, proving{share.Y, draw(113), draw(113)})
			if !impl.SealPartGood(p, published, part, proof) || !impl.ShareCheck(publish(t, g.secret, g.tape), share) {
				t.Errorf("SealPartGood(%v, %d, %d, %v) is false", p, published, part, proof)
			}
			parts[i] = impl.Point{X: share.X, Y: part}
		}
		if got := sealJoin(t, p, parts); got != m {
			t.Errorf("SealJoin(%v, %v) is %d, not %d", p, parts, got, m)
		}
		at := draw(g.n)
		parts[at].Y = parts[at].Y * 4 % 227
		if got := sealJoin(t, p, parts); got == m {
			t.Errorf("SealJoin(%v, %v) is %d, though the part with index %d is wrong", p, parts, got, at)
		}
		if few := list[:len(g.tape)]; len(few) > 0 {
			elsewhere += oneIf(sealJoin(t, p, parts[:len(few)]) != m)
		}
	}
	if elsewhere < 100 {
		t.Errorf("too few parts lead elsewhere just %d times", elsewhere)
	}
}

// P125 and P126: of pairs and parts that are not of elements, of no parts and eight, and of an X that there is not or is there twice.
func TestSealJoinIsToldJustOfParts(t *testing.T) {
	draw := draws(1261)
	wantNone := func(p impl.Pair, parts []impl.Point) {
		t.Helper()
		m, ok := impl.SealJoin(p, parts)
		wantNothing(t, fmt.Sprintf("SealJoin(%v, %v)", p, parts), m, ok)
	}
	fine := impl.Pair{A: 4, B: 9}
	wantNone(fine, nil)
	wantNone(fine, []impl.Point{})
	wantNone(impl.Pair{A: 1, B: 1}, nil)
	for _, n := range []int{8, 9, 20, 21, 112, 113, 1000} {
		many := make([]impl.Point, n)
		for i := range many {
			many[i] = impl.Point{X: i + 1, Y: 1}
		}
		wantNone(fine, many)
		for i := range many {
			many[i].X = 1 + i%7
		}
		wantNone(fine, many)
	}
	for n := 1; n <= 7; n++ {
		parts := drawnShares(draw, n, 7)
		for i := range parts {
			parts[i].Y = allElements()[draw(113)]
		}
		for _, bad := range append(notPairs(), nearPairs(fine)...) {
			wantNone(bad, parts)
		}
		for i, part := range parts {
			wrong := slices.Clone(parts)
			for _, bad := range append(extremes(), 0, -7, 8, 9, 20, 112, part.X+113, part.X-113) {
				wrong[i] = impl.Point{X: bad, Y: part.Y}
				wantNone(fine, wrong)
			}
			for _, bad := range append(notElements(), part.Y+227, part.Y-227) {
				wrong[i] = impl.Point{X: part.X, Y: bad}
				wantNone(fine, wrong)
			}
			for j, other := range parts {
				if j != i {
					wrong[i] = impl.Point{X: other.X, Y: part.Y}
					wantNone(fine, wrong)
					wrong[i] = other
					wantNone(fine, wrong)
				}
			}
		}
		if n < 7 {
			wantNone(fine, append(slices.Clone(parts), parts[0]))
		}
	}
}

// P118 to P126, with answers reckoned by hand.
func TestSealedReckonedByHand(t *testing.T) {
	for _, c := range []struct {
		secret, key, m, blind int
		want                  impl.Pair
	}{
		{5, 116, 7, 9, impl.Pair{A: 186, B: 90}}, // 4^9 is 262144; 52 is 7 + 5*9, and 4^13, 4^26 and 4^52 are 173, 192 and 90
		{0, 1, 0, 0, impl.Pair{A: 1, B: 1}},
		{0, 1, 112, 112, impl.Pair{A: 57, B: 57}}, // 57 times 4 is 228
		{1, 4, 112, 1, impl.Pair{A: 4, B: 1}},
		{112, 57, 1, 1, impl.Pair{A: 4, B: 1}},
		{5, 116, 0, 1, impl.Pair{A: 4, B: 116}},
		{5, 116, 2, 0, impl.Pair{A: 1, B: 16}},
	} {
		p := sealMake(t, c.key, c.m, c.blind)
		if m := sealOpen(t, c.secret, c.want); p != c.want || m != c.m {
			t.Errorf("SealMake(%d, %d, %d) is %v, not %v, which is opened to %d", c.key, c.m, c.blind, p, c.want, m)
		}
	}
	p, q := impl.Pair{A: 4, B: 16}, impl.Pair{A: 57, B: 64}
	if sum := sealAdd(t, p, q); sum != (impl.Pair{A: 1, B: 116}) { // 16 times 64 is 1024
		t.Errorf("SealAdd(%v, %v) is %v", p, q, sum)
	}
	if product := sealScale(t, p, 3); product != (impl.Pair{A: 64, B: 10}) { // 16^3 is 4096
		t.Errorf("SealScale(%v, 3) is %v", p, product)
	}
	if again := sealAgain(t, 16, p, 1); again != (impl.Pair{A: 16, B: 29}) { // 16 times 16 is 256
		t.Errorf("SealAgain(16, %v, 1) is %v", p, again)
	}
	part, proof := sealPart(t, p, proving{5, 7, 3})
	if part != 116 || proof != (impl.Twin{ComA: 40, ComB: 40, Chal: 3, Resp: 22}) {
		t.Errorf("SealPart(%v, 5, 7, 3) is %d, %v", p, part, proof)
	}
	// Shares 9, 11 and 13 of 7 are the exponents of 4, so that 4^7 is what B is divided by: 4^9 is 4^2 times as much.
	parts := []impl.Point{{X: 1, Y: 186}, {X: 2, Y: 25}, {X: 3, Y: 173}}
	sealed := impl.Pair{A: 4, B: 186}
	for _, some := range [][]impl.Point{parts, parts[:2], parts[1:], {parts[2], parts[0]}} {
		if m := sealJoin(t, sealed, some); m != 2 {
			t.Errorf("SealJoin(%v, %v) is %d, not 2", sealed, some, m)
		}
	}
	if m := sealJoin(t, sealed, parts[:1]); m != 0 {
		t.Errorf("SealJoin(%v, %v) is %d, not 0", sealed, parts[:1], m)
	}
}

// P118 to P126: the general rules on memory: parts are not changed, nor what is behind them.
func TestSealedKeepsItsArguments(t *testing.T) {
	draw := draws(1262)
	for n := range 9 {
		parts := make([]impl.Point, n)
		for i := range parts {
			parts[i] = impl.Point{X: n - i, Y: allElements()[draw(113)]}
		}
		parts = withRoom(parts, impl.Point{X: spare, Y: spare})
		for _, p := range append(somePairs(draw), impl.Pair{}) {
			for _, some := range [][]impl.Point{parts, parts[:n/2], parts[n/2:]} {
				wantOwnMemoryOf(t, "SealJoin", [][]impl.Point{parts}, spare-1, func() [][]int {
					m, ok := impl.SealJoin(p, some)
					return [][]int{{m, oneIf(ok)}}
				})
			}
		}
	}
}

// P118 to P126: what was told before does not count, nor what is told at the same time.
func TestSealedKeepsNoState(t *testing.T) {
	table := tableOfElements()
	atTheSameTime(1263, func(draw func(int) int) {
		list := fewSealings(draw)
		for range 2 {
			for i, s := range list {
				impl.SealMake(0, 113, -1)
				impl.SealJoin(impl.Pair{}, nil)
				p, ok := impl.SealMake(s.key(table), s.m, s.blind)
				m, fine := impl.SealOpen(s.secret, p)
				parts := table.parts(p, sharesReckoned(giving{s.secret, 3 + i%5, []int{s.m, s.blind}}))
				joined, told := impl.SealJoin(p, parts)
				if !ok || !fine || !told || p != s.pair(table) || m != s.m || joined != s.m {
					t.Errorf("of %v there are %v, %d and %d", s, p, m, joined)
				}
			}
			slices.Reverse(list)
		}
	})
}
