package tests

import (
	"fmt"
	"slices"
	"testing"

	"loop.example/underveil/impl"
)

// proofs is the secrets of keys, with a nonce and a challenge for each.
type proofs []proving

// keys reckons the keys.
func (list proofs) keys() []int {
	powers := powersReckoned(4)
	keys := make([]int, len(list))
	for i, x := range list {
		keys[i] = powers[x.secret]
	}
	return keys
}

// chal reckons the sum of the challenges.
func (list proofs) chal() int {
	sum := 0
	for _, x := range list {
		sum += x.chal
	}
	return sum % 113
}

// told reckons the proofs.
func (list proofs) told(table elementTable) []impl.Proof {
	told := make([]impl.Proof, len(list))
	for i, x := range list {
		told[i] = x.proof(table)
	}
	return told
}

// tape reckons the tape by which the secret of the key with an index has these proofs.
func (list proofs) tape(index int) []int {
	var tape []int
	for i, x := range list {
		if i == index {
			tape = append(tape, x.nonce, 0)
		} else {
			tape = append(tape, x.chal, x.response())
		}
	}
	return tape
}

// with returns a copy with another challenge for the key with an index.
func (list proofs) with(index, chal int) proofs {
	list = slices.Clone(list)
	list[index].chal = chal
	return list
}

// someProofs returns proofs for 1 to 6 keys: zeros, the greatest numbers, the same keys, keys of which some are 1, and drawn ones.
func someProofs(draw func(int) int) []proofs {
	var list []proofs
	for n := 1; n <= 6; n++ {
		list = append(list, make(proofs, n), slices.Repeat(proofs{{112, 112, 112}}, n))
		same, some, drawn := drawnProofs(draw, n), drawnProofs(draw, n), drawnProofs(draw, n)
		for i := range n {
			same[i].secret = same[0].secret
			some[i].secret *= i % 2
		}
		list = append(list, same, some, drawn, drawnProofs(draw, n))
	}
	return list
}

func drawnProofs(draw func(int) int, n int) proofs {
	list := make(proofs, n)
	for i := range list {
		list[i] = proving{draw(113), draw(113), draw(113)}
	}
	return list
}

// eithering is keys of which one is known, by its index and secret, with a challenge and a tape.
type eithering struct {
	keys                []int
	index, secret, chal int
	tape                []int
}

// proofs reckons which challenges and nonces there are, from the secrets of all keys.
func (e eithering) proofs(table elementTable) proofs {
	list := make(proofs, len(e.keys))
	rest := e.chal
	for i, key := range e.keys {
		secret, chal, resp := table.logs[key], e.tape[2*i], e.tape[2*i+1]
		if i != e.index {
			list[i] = proving{secret, (resp + 113*113 - chal*secret) % 113, chal}
			rest += 113 - chal
		}
	}
	list[e.index] = proving{e.secret, e.tape[2*e.index], rest % 113}
	return list
}

func (e eithering) make() ([]impl.Proof, bool) {
	return impl.EitherMake(e.keys, e.index, e.secret, e.chal, e.tape)
}

// someEitherings returns what is made for each index of 1 to 6 keys, by tapes of zeros, of the greatest numbers and drawn ones.
func someEitherings(draw func(int) int) []eithering {
	var list []eithering
	for _, x := range someProofs(draw) {
		for index := range x {
			n := 2 * len(x)
			for i, tape := range [][]int{make([]int, n), slices.Repeat([]int{112}, n), x.tape(index), drawnList(draw, n)} {
				list = append(list, eithering{x.keys(), index, x[index].secret, edgeNumbers(draw)[(i+index+n)%6], tape})
			}
		}
	}
	return list
}

// fine reckons whether it can be made.
func (e eithering) fine(table elementTable) bool {
	notElement := func(g int) bool { return !table.isElement(g) }
	notNumber := func(a int) bool { return !isNumber(a) }
	if len(e.keys) < 1 || len(e.keys) > 6 || slices.ContainsFunc(e.keys, notElement) || e.index < 0 || e.index >= len(e.keys) {
		return false
	}
	return isNumber(e.secret) && table.logs[e.keys[e.index]] == e.secret && isNumber(e.chal) && len(e.tape) == 2*len(e.keys) && !slices.ContainsFunc(e.tape, notNumber)
}

// notEitherings returns what cannot be made: too few or too many keys, or what could be made but is changed in one place.
func notEitherings(draw func(int) int) []eithering {
	list := []eithering{{}, {keys: []int{}, tape: []int{}}, {keys: make([]int, 1), tape: make([]int, 2)}}
	for _, n := range []int{7, 8, 1000} {
		for _, tape := range [][]int{make([]int, 2*n), make([]int, 12), nil} {
			list = append(list, eithering{keys: slices.Repeat([]int{1}, n), tape: tape})
		}
	}
	for _, e := range someEitherings(draw) {
		n := len(e.keys)
		for _, bad := range notIndexes(n) {
			list = append(list, eithering{e.keys, bad, e.secret, e.chal, e.tape})
		}
		for _, bad := range append(extremes(), e.secret+113, e.secret-113, (e.secret+1+draw(112))%113, (e.secret+1+draw(112))%113) {
			list = append(list, eithering{e.keys, e.index, bad, e.chal, e.tape})
		}
		for _, bad := range append(extremes(), e.chal+113, e.chal-113) {
			list = append(list, eithering{e.keys, e.index, e.secret, bad, e.tape})
		}
		for _, bad := range append(notLists(2*n), e.tape[:2*n-1], append(slices.Clone(e.tape), 0), append(slices.Clone(e.tape), 1, 2), e.tape[2:]) {
			list = append(list, eithering{e.keys, e.index, e.secret, e.chal, bad})
		}
		for _, bad := range notKeysOf(e.keys) {
			list = append(list, eithering{bad, e.index, e.secret, e.chal, e.tape})
		}
	}
	table := tableOfElements()
	return slices.DeleteFunc(list, func(e eithering) bool { return e.fine(table) })
}

// notKeysOf returns what are not as many keys: none, too many, one more or less, or one that is no element.
func notKeysOf(keys []int) [][]int {
	list := [][]int{nil, {}, append(slices.Clone(keys), 1), keys[1:], slices.Repeat([]int{1}, 7), slices.Repeat([]int{4}, 1000)}
	for i := range keys {
		for _, bad := range append(extremes(), 0, 2, 3, 226, 227, keys[i]+227, keys[i]-227, 227-keys[i]) {
			if !slices.Contains(allElements(), bad) {
				wrong := slices.Clone(keys)
				wrong[i] = bad
				list = append(list, wrong)
			}
		}
	}
	return list
}

// brokenListsOf returns lists of proofs that are too few or too many, or of which one is a wrong one.
func brokenListsOf[P comparable](list []P, wrong func(p P) []P) [][]P {
	broken := [][]P{nil, {}, list[1:], list[:len(list)-1], append(slices.Clone(list), list[0]), make([]P, len(list)), slices.Repeat(list[:1], 7)}
	for i, p := range list {
		for _, bad := range wrong(p) {
			with := slices.Clone(list)
			with[i] = bad
			broken = append(broken, with)
		}
	}
	return slices.DeleteFunc(broken, func(other []P) bool { return slices.Equal(other, list) })
}

// fewOf returns the first two of a list, and some that are drawn.
func fewOf[P any](draw func(int) int, list []P) []P {
	few := slices.Clone(list[:2])
	for range 12 {
		few = append(few, list[draw(len(list))])
	}
	return few
}

// brokenProofLists returns lists of proofs that are too few or too many, or of which one is not good.
func brokenProofLists(draw func(int) int, list []impl.Proof) [][]impl.Proof {
	return brokenListsOf(list, func(p impl.Proof) []impl.Proof {
		wrong := []impl.Proof{{}, {Com: p.Com, Chal: p.Chal, Resp: (p.Resp + 1 + draw(112)) % 113}, {Com: p.Com * 4 % 227, Chal: p.Chal, Resp: p.Resp}}
		return append(wrong, fewOf(draw, brokenProofs(p))...)
	})
}

func eitherMake(t *testing.T, e eithering) []impl.Proof {
	t.Helper()
	list, ok := e.make()
	if !ok || len(list) != len(e.keys) {
		t.Fatalf("EitherMake(%v) is %v, %v", e, list, ok)
	}
	return list
}

func eitherTape(t *testing.T, keys []int, list []impl.Proof, index, secret int) []int {
	t.Helper()
	tape, ok := impl.EitherTape(keys, list, index, secret)
	return wantList(t, fmt.Sprintf("EitherTape(%v, %v, %d, %d)", keys, list, index, secret), tape, ok, 2*len(keys))
}

// wantNoSecret fails the test unless EitherSecret tells nothing, in either order.
func wantNoSecret(t *testing.T, keys []int, a, b []impl.Proof) {
	t.Helper()
	for range 2 {
		if index, secret, ok := impl.EitherSecret(keys, a, b); ok || index != 0 || secret != 0 {
			t.Errorf("EitherSecret(%v, %v, %v) is %d, %d, %v", keys, a, b, index, secret, ok)
		}
		a, b = b, a
	}
}

// P92
func TestEitherGoodHoldsOfEitherMake(t *testing.T) {
	table := tableOfElements()
	for _, e := range someEitherings(draws(92)) {
		list := eitherMake(t, e)
		if want := e.proofs(table).told(table); !slices.Equal(list, want) {
			t.Errorf("EitherMake(%v) is %v, not %v", e, list, want)
		}
		if !impl.EitherGood(e.keys, e.chal, list) {
			t.Errorf("EitherGood(%v, %d, %v) is false", e.keys, e.chal, list)
		}
		for i, p := range list {
			if !impl.ProofGood(e.keys[i], p) {
				t.Errorf("EitherMake(%v) is %v, of which proof %d is not good", e, list, i)
			}
		}
	}
}

// P92: for each challenge.
func TestEitherMakeOfEachChallenge(t *testing.T) {
	draw := draws(920)
	table := tableOfElements()
	for _, x := range someProofs(draw) {
		index := draw(len(x))
		for _, chal := range allNumbers() {
			e := eithering{x.keys(), index, x[index].secret, chal, drawnList(draw, 2*len(x))}
			list := eitherMake(t, e)
			if want := e.proofs(table).told(table); !slices.Equal(list, want) || !impl.EitherGood(e.keys, chal, list) {
				t.Errorf("EitherMake(%v) is %v, not %v", e, list, want)
			}
		}
	}
}

// P92: the number of the tape that does not count may be each number, but must be one.
func TestEitherMakeWithTheNumberThatDoesNotCount(t *testing.T) {
	for _, e := range someEitherings(draws(921)) {
		list := eitherMake(t, e)
		changed := slices.Clone(e.tape)
		e.tape = changed
		for _, a := range []int{0, 1, 57, 111, 112} {
			changed[2*e.index+1] = a
			if got := eitherMake(t, e); !slices.Equal(got, list) {
				t.Errorf("EitherMake(%v) is %v, and %v before", e, got, list)
			}
		}
		for _, bad := range extremes() {
			changed[2*e.index+1] = bad
			wantNotMade(t, e)
		}
	}
}

func wantNotMade(t *testing.T, e eithering) {
	t.Helper()
	if list, ok := e.make(); ok || len(list) != 0 {
		t.Errorf("EitherMake(%v) is %v, %v", e, list, ok)
	}
}

// P92
func TestEitherMakeIsToldJustOfAKnownKey(t *testing.T) {
	list := notEitherings(draws(922))
	if len(list) < 10000 {
		t.Errorf("just %d are tried", len(list))
	}
	for _, bad := range list {
		wantNotMade(t, bad)
	}
	for _, bad := range notNumbers() {
		wantNotMade(t, eithering{[]int{1, 1}, 0, bad, 0, make([]int, 4)})
		wantNotMade(t, eithering{[]int{1, 1}, 0, 0, bad, make([]int, 4)})
		wantNotMade(t, eithering{[]int{1, 1}, bad, 0, 0, make([]int, 4)})
		wantNotMade(t, eithering{[]int{1, 1}, 0, 0, 0, []int{0, 0, bad, 0}})
	}
	for _, bad := range notElements() {
		wantNotMade(t, eithering{[]int{1, bad}, 0, 0, 0, make([]int, 4)})
		wantNotMade(t, eithering{[]int{bad, 1}, 0, 0, 0, make([]int, 4)})
	}
}

// P93
func TestEitherGoodHoldsForNoOtherChallenge(t *testing.T) {
	draw := draws(93)
	table := tableOfElements()
	for _, x := range someProofs(draw) {
		keys, list := x.keys(), x.told(table)
		for _, chal := range allNumbers() {
			if got := impl.EitherGood(keys, chal, list); got != (chal == x.chal()) {
				t.Errorf("EitherGood(%v, %d, %v) is %v", keys, chal, list, got)
			}
		}
		for _, bad := range append(notNumbers(), x.chal()+113, x.chal()-113, x.chal()+113<<32) {
			if impl.EitherGood(keys, bad, list) {
				t.Errorf("EitherGood(%v, %d, %v) is true", keys, bad, list)
			}
		}
	}
}

// P93: each key counts, and each challenge.
func TestEitherGoodHoldsOfNoOtherChallengeOfAKey(t *testing.T) {
	draw := draws(930)
	table := tableOfElements()
	for _, x := range someProofs(draw) {
		for i := range x {
			for _, chal := range allNumbers() {
				other := x.with(i, chal)
				if got := impl.EitherGood(x.keys(), x.chal(), other.told(table)); got != (chal == x[i].chal) {
					t.Errorf("EitherGood(%v, %d, %v) is %v", x.keys(), x.chal(), other.told(table), got)
				}
			}
			keys := x.keys()
			keys[i] = keys[i] * 4 % 227
			if got := impl.EitherGood(keys, x.chal(), x.told(table)); got != (x[i].chal == 0) {
				t.Errorf("EitherGood(%v, %d, %v) is %v", keys, x.chal(), x.told(table), got)
			}
		}
	}
}

// P92 and P93: of what are no keys, of too few and too many proofs, and of one that is not good.
func TestEitherGoodHoldsJustOfGoodProofs(t *testing.T) {
	draw := draws(931)
	table := tableOfElements()
	for _, x := range someProofs(draw) {
		keys, list := x.keys(), x.told(table)
		for _, bad := range notKeysOf(keys) {
			if impl.EitherGood(bad, x.chal(), list) || impl.EitherGood(bad, 0, nil) {
				t.Errorf("EitherGood(%v, %d, %v) is true", bad, x.chal(), list)
			}
		}
		for _, bad := range brokenProofLists(draw, list) {
			sum := 0
			for _, p := range bad {
				sum = (sum + p.Chal%113 + 113) % 113
			}
			if impl.EitherGood(keys, x.chal(), bad) || impl.EitherGood(keys, sum, bad) {
				t.Errorf("EitherGood(%v, %d or %d, %v) is true", keys, x.chal(), sum, bad)
			}
		}
	}
	for _, n := range []int{0, 7, 8, 1000} {
		x := make(proofs, n)
		if impl.EitherGood(x.keys(), 0, x.told(table)) {
			t.Errorf("EitherGood of %d keys is true", n)
		}
	}
}

// P94: lists that differ in the challenge of one key.
func TestEitherSecretOfOneKeyIsItsSecret(t *testing.T) {
	draw := draws(94)
	table := tableOfElements()
	for _, x := range someProofs(draw) {
		for i := range x {
			for _, chal := range allNumbers() {
				a, b := x.told(table), x.with(i, chal).told(table)
				if chal == x[i].chal {
					wantNoSecret(t, x.keys(), a, b)
					continue
				}
				index, secret, ok := impl.EitherSecret(x.keys(), a, b)
				if !ok || index != i || secret != x[i].secret || elementPow(t, 4, secret) != x.keys()[index] {
					t.Errorf("EitherSecret(%v, %v, %v) is %d, %d, %v, not of key %d", x.keys(), a, b, index, secret, ok, i)
				}
			}
		}
	}
}

// P94: lists that differ in the challenges of several keys: the first one is told, unless the challenges add up to the same.
func TestEitherSecretOfSeveralKeysIsTheFirstOne(t *testing.T) {
	draw := draws(940)
	table := tableOfElements()
	same := 0
	for _, x := range someProofs(draw) {
		for range 60 {
			other := slices.Clone(x)
			for i := range other {
				if draw(2) == 0 {
					other[i].chal = (x[i].chal + 1 + draw(3)) % 113
				}
			}
			if last := len(x) - 1; draw(3) == 0 { // the last one makes the challenges add up to the same
				other[last].chal = (x[last].chal + x.chal() + 113 - other.with(last, x[last].chal).chal()) % 113
			}
			first := slices.IndexFunc(allNumbers()[:len(x)], func(i int) bool { return x[i] != other[i] })
			a, b := x.told(table), other.told(table)
			if x.chal() == other.chal() {
				same += oneIf(first >= 0)
				wantNoSecret(t, x.keys(), a, b)
				continue
			}
			index, secret, ok := impl.EitherSecret(x.keys(), a, b)
			if !ok || index != first || secret != x[first].secret {
				t.Errorf("EitherSecret(%v, %v, %v) is %d, %d, %v, not of key %d", x.keys(), a, b, index, secret, ok, first)
			}
		}
	}
	if same < 50 {
		t.Errorf("just %d lists have other challenges that add up to the same", same)
	}
}

// P94: of what EitherMake tells by one tape for two challenges.
func TestEitherSecretOfEitherMake(t *testing.T) {
	draw := draws(941)
	for _, e := range someEitherings(draw) {
		a := eitherMake(t, e)
		for range 3 {
			other := e
			other.chal = (e.chal + 1 + draw(112)) % 113
			if index, secret, ok := impl.EitherSecret(e.keys, a, eitherMake(t, other)); !ok || index != e.index || secret != e.secret {
				t.Errorf("EitherSecret of %v and the challenge %d is %d, %d, %v", e, other.chal, index, secret, ok)
			}
		}
	}
}

// P94: of what are no keys, of lists that are not good, too short or too long, and with different commitments.
func TestEitherSecretIsToldJustOfGoodLists(t *testing.T) {
	draw := draws(942)
	table := tableOfElements()
	for _, x := range someProofs(draw) {
		last := len(x) - 1
		other := x.with(last, (x[last].chal+1+draw(112))%113)
		keys, a, b := x.keys(), x.told(table), other.told(table)
		for _, bad := range notKeysOf(keys) {
			wantNoSecret(t, bad, a, b)
		}
		for _, bad := range brokenProofLists(draw, b) {
			if !slices.Equal(bad, a) {
				wantNoSecret(t, keys, a, bad)
			}
		}
		wantNoSecret(t, keys, a[:last], b[:last])
		wantNoSecret(t, keys, a[1:], b[1:])
		wantNoSecret(t, keys, append(slices.Clone(a), a...), append(slices.Clone(b), b...))
		wantNoSecret(t, keys, a, a)
		for i := range x { // a list with another commitment alone, also of the keys behind the first other challenge
			for more := 1; more < 113; more++ {
				drawn := slices.Clone(other)
				drawn[i].nonce = (drawn[i].nonce + more) % 113
				wantNoSecret(t, keys, a, drawn.told(table))
				if i > 0 {
					first := drawn.with(0, (x[0].chal+5)%113)
					wantNoSecret(t, keys, a, first.told(table))
				}
			}
		}
	}
	wantNoSecret(t, nil, nil, nil)
	wantNoSecret(t, []int{1}, nil, nil)
	for _, n := range []int{7, 8, 1000} {
		x := make(proofs, n)
		wantNoSecret(t, x.keys(), x.told(table), x.with(0, 1).told(table))
	}
}

// P95: for each index, also the one that made the list.
func TestEitherMakeByEitherTapeIsTheList(t *testing.T) {
	table := tableOfElements()
	for _, e := range someEitherings(draws(95)) {
		list, x := eitherMake(t, e), e.proofs(table)
		for index, key := range e.keys {
			secret := table.logs[key]
			tape := eitherTape(t, e.keys, list, index, secret)
			if want := x.tape(index); !slices.Equal(tape, want) {
				t.Errorf("EitherTape(%v, %v, %d, %d) is %v, not %v", e.keys, list, index, secret, tape, want)
			}
			if got := eitherMake(t, eithering{e.keys, index, secret, e.chal, tape}); !slices.Equal(got, list) {
				t.Errorf("EitherMake(%v) is %v, and with the index %d by EitherTape %v", e, list, index, got)
			}
		}
	}
}

// P95: of lists that nobody made, of whatever challenge.
func TestEitherTapeOfFeignedProofs(t *testing.T) {
	table := tableOfElements()
	for _, x := range someProofs(draws(950)) {
		list := x.told(table)
		for index := range x {
			tape := eitherTape(t, x.keys(), list, index, x[index].secret)
			if want := x.tape(index); !slices.Equal(tape, want) || !slices.Equal(eitherMake(t, eithering{x.keys(), index, x[index].secret, x.chal(), tape}), list) {
				t.Errorf("EitherTape(%v, %v, %d) is %v, not %v", x.keys(), list, index, tape, want)
			}
		}
	}
}

// P95: of what are no keys, of lists that are not good, of no index, and of what is not the secret of the key.
func TestEitherTapeIsToldJustOfGoodLists(t *testing.T) {
	draw := draws(951)
	table := tableOfElements()
	wantNone := func(keys []int, list []impl.Proof, index, secret int) {
		t.Helper()
		tape, ok := impl.EitherTape(keys, list, index, secret)
		wantNoList(t, fmt.Sprintf("EitherTape(%v, %v, %d, %d)", keys, list, index, secret), tape, ok)
	}
	for _, x := range someProofs(draw) {
		keys, list := x.keys(), x.told(table)
		for index := range x {
			secret := x[index].secret
			for _, bad := range notKeysOf(keys) {
				wantNone(bad, list, index, secret)
			}
			for _, bad := range brokenProofLists(draw, list) {
				wantNone(keys, bad, index, secret)
			}
			for more := 1; more < 113; more++ {
				wantNone(keys, list, index, (secret+more)%113)
			}
			for _, bad := range append(notNumbers(), secret+113, secret-113) {
				wantNone(keys, list, index, bad)
			}
			for _, bad := range notIndexes(len(x)) {
				wantNone(keys, list, bad, secret)
			}
		}
	}
	for _, n := range []int{0, 7, 8, 1000} {
		x := make(proofs, n)
		wantNone(x.keys(), x.told(table), 0, 0)
	}
}

// P92 to P95, with answers reckoned by hand.
func TestEitherReckonedByHand(t *testing.T) {
	for _, c := range []struct {
		e     eithering
		want  []impl.Proof
		other int // the index and the secret of another key
		log   int
		tape  []int
	}{
		{eithering{[]int{9, 116}, 1, 5, 50, []int{1, 2, 3, 4}}, []impl.Proof{{Com: 27, Chal: 1, Resp: 2}, {Com: 64, Chal: 49, Resp: 22}}, 0, 46, []int{69, 0, 49, 22}}, // 27*9 is 243, 16 and 227; 3 + 49*5 is 248; 2 - 46 is 69
		{eithering{[]int{4}, 0, 1, 112, []int{1, 55}}, []impl.Proof{{Com: 4, Chal: 112, Resp: 0}}, 0, 1, []int{1, 0}},
		{eithering{[]int{1, 1}, 0, 0, 0, []int{0, 0, 0, 0}}, []impl.Proof{{Com: 1}, {Com: 1}}, 1, 0, []int{0, 0, 0, 0}},
		{eithering{[]int{4, 4}, 0, 1, 0, []int{0, 112, 1, 1}}, []impl.Proof{{Com: 1, Chal: 112, Resp: 112}, {Com: 1, Chal: 1, Resp: 1}}, 1, 1, []int{112, 112, 0, 0}},
	} {
		list := eitherMake(t, c.e)
		tape := eitherTape(t, c.e.keys, list, c.other, c.log)
		if !slices.Equal(list, c.want) || !slices.Equal(tape, c.tape) {
			t.Errorf("EitherMake(%v) is %v, not %v, and the other tape %v, not %v", c.e, list, c.want, tape, c.tape)
		}
	}
	keys := []int{9, 116}
	a := []impl.Proof{{Com: 27, Chal: 1, Resp: 2}, {Com: 64, Chal: 49, Resp: 22}}
	b := []impl.Proof{{Com: 27, Chal: 1, Resp: 2}, {Com: 64, Chal: 50, Resp: 27}}
	both := []impl.Proof{{Com: 27, Chal: 2, Resp: 48}, {Com: 64, Chal: 50, Resp: 27}}
	same := []impl.Proof{{Com: 27, Chal: 0, Resp: 69}, {Com: 64, Chal: 50, Resp: 27}}
	if index, secret, ok := impl.EitherSecret(keys, a, b); !ok || index != 1 || secret != 5 {
		t.Errorf("EitherSecret(%v, %v, %v) is %d, %d, %v", keys, a, b, index, secret, ok)
	}
	if index, secret, ok := impl.EitherSecret(keys, a, both); !ok || index != 0 || secret != 46 {
		t.Errorf("EitherSecret(%v, %v, %v) is %d, %d, %v", keys, a, both, index, secret, ok)
	}
	if !impl.EitherGood(keys, 50, same) {
		t.Errorf("EitherGood(%v, 50, %v) is false", keys, same)
	}
	wantNoSecret(t, keys, a, same)
}

// proofMark is what is written all over a result, to see whether it shares memory.
func proofMark() impl.Proof { return impl.Proof{Com: spare - 1, Chal: spare - 1, Resp: spare - 1} }

// wantEitherKept fails the test if one of the functions does not keep the rules on memory. Each is called twice, so that both results are held against each other.
func wantEitherKept(t *testing.T, e eithering, list, other []impl.Proof) {
	t.Helper()
	wantOwnMemoryOf(t, "EitherMake", [][]int{e.keys, e.tape}, proofMark(), func() [][]impl.Proof {
		first, _ := e.make()
		second, _ := e.make()
		return [][]impl.Proof{first, second}
	})
	tapes := func() [][]int {
		impl.EitherGood(e.keys, e.chal, list)
		first, _ := impl.EitherTape(e.keys, list, e.index, e.secret)
		second, _ := impl.EitherTape(e.keys, list, e.index, e.secret)
		index, secret, _ := impl.EitherSecret(e.keys, list, other)
		return [][]int{first, second, {index, secret}}
	}
	wantOwnMemory(t, "EitherTape", [][]int{e.keys, e.tape}, tapes)
	wantOwnMemoryOf(t, "EitherTape", [][]impl.Proof{list, other}, spare-1, tapes)
}

// P92 to P95: the general rules on memory, also if several arguments are in the same memory.
func TestEitherOwnsItsMemory(t *testing.T) {
	draw := draws(952)
	table := tableOfElements()
	for i, e := range append(someEitherings(draw), notEitherings(draw)[:200]...) {
		var list, other []impl.Proof
		if made, ok := e.make(); ok {
			x := e.proofs(table)
			list, other = withRoom(made, proofMark()), withRoom(x.with(i%len(x), draw(113)).told(table), proofMark())
		}
		e.keys, e.tape = withSpare(e.keys), withSpare(e.tape)
		wantEitherKept(t, e, list, other)
		wantEitherKept(t, e, list, list)
		wantEitherKept(t, e, other, nil)
		e.keys = e.tape
		wantEitherKept(t, e, list, other)
	}
	wantEitherKept(t, eithering{keys: withSpare([]int{1}), tape: withSpare([]int{1, 1})[:1]}, nil, nil)
	both := withSpare([]int{1, 1, 1, 1})
	wantEitherKept(t, eithering{keys: both[:2], tape: both}, make(proofs, 2).told(table), nil)
}

// P92 to P95: what was told before does not count, nor what is told at the same time.
func TestEitherKeepsNoState(t *testing.T) {
	table := tableOfElements()
	atTheSameTime(953, func(draw func(int) int) {
		list := someEitherings(draw)
		for range 2 {
			for _, e := range list {
				impl.EitherMake(nil, -1, 113, 5, nil)
				made, ok := e.make()
				x := e.proofs(table)
				tape, fine := impl.EitherTape(e.keys, made, e.index, e.secret)
				if !ok || !fine || !slices.Equal(made, x.told(table)) || !slices.Equal(tape, x.tape(e.index)) {
					t.Errorf("EitherMake(%v) is %v, and EitherTape %v", e, made, tape)
				}
			}
			slices.Reverse(list)
		}
	})
}
