package tests

import (
	"fmt"
	"slices"
	"sync"
	"testing"

	"loop.example/underveil/impl"
)

// elementTable has the powers 0 to 112 of each element, and of each one with which exponent it is the power of 4.
type elementTable struct {
	powers map[int][]int
	logs   map[int]int
}

func tableOfElements() elementTable {
	table := elementTable{map[int][]int{}, map[int]int{}}
	for _, g := range allElements() {
		table.powers[g] = powersReckoned(g)
	}
	for e, g := range table.powers[4] {
		table.logs[g] = e
	}
	return table
}

// isElement reports whether there is such an element.
func (table elementTable) isElement(g int) bool {
	return table.powers[g] != nil
}

// fits reports whether a response fits a commitment and a challenge, for a base and a key.
func (table elementTable) fits(base, key, com, chal, resp int) bool {
	return isNumber(chal) && isNumber(resp) && table.isElement(base) && table.isElement(key) && table.isElement(com) &&
		table.powers[base][resp] == com*table.powers[key][chal]%227
}

func isNumber(a int) bool { return 0 <= a && a <= 112 }

// good reckons whether a proof is good.
func (table elementTable) good(key int, p impl.Proof) bool {
	return table.fits(4, key, p.Com, p.Chal, p.Resp)
}

// goodTwin reckons whether a twin proof is good.
func (table elementTable) goodTwin(base, key impl.Pair, p impl.Twin) bool {
	return table.fits(base.A, key.A, p.ComA, p.Chal, p.Resp) && table.fits(base.B, key.B, p.ComB, p.Chal, p.Resp)
}

// power reckons the powers of a pair.
func (table elementTable) power(base impl.Pair, e int) impl.Pair {
	return impl.Pair{A: table.powers[base.A][e], B: table.powers[base.B][e]}
}

// proving is a secret, a nonce and a challenge.
type proving struct {
	secret, nonce, chal int
}

// response reckons the response.
func (x proving) response() int { return (x.nonce + x.chal*x.secret) % 113 }

// proof reckons the proof.
func (x proving) proof(table elementTable) impl.Proof {
	return impl.Proof{Com: table.powers[4][x.nonce], Chal: x.chal, Resp: x.response()}
}

// twin reckons the twin proof for bases.
func (x proving) twin(table elementTable, base impl.Pair) impl.Twin {
	return impl.Twin{ComA: table.powers[base.A][x.nonce], ComB: table.powers[base.B][x.nonce], Chal: x.chal, Resp: x.response()}
}

// someProvings returns all pairs of numbers as two of secret, nonce and challenge, with some as the third one.
func someProvings(draw func(int) int) []proving {
	var list []proving
	for _, a := range allNumbers() {
		for _, b := range allNumbers() {
			for _, c := range edgeNumbers(draw) {
				list = append(list, proving{a, b, c}, proving{a, c, b}, proving{c, a, b})
			}
		}
	}
	return list
}

// fewProvings returns the least, the greatest and some drawn numbers as secret, nonce and challenge.
func fewProvings(draw func(int) int) []proving {
	var list []proving
	for _, secret := range edgeNumbers(draw) {
		for _, nonce := range edgeNumbers(draw) {
			for _, chal := range edgeNumbers(draw) {
				list = append(list, proving{secret, nonce, chal})
			}
		}
	}
	return list
}

// notThree returns three numbers of which one or all are none.
func notThree() []proving {
	var list []proving
	for _, bad := range notNumbers() {
		for _, a := range []int{0, 1, 112} {
			list = append(list, proving{bad, a, 5}, proving{a, bad, 5}, proving{5, a, bad}, proving{bad, bad, a})
		}
		list = append(list, proving{bad, bad, bad})
	}
	return list
}

// edgeElements returns 1, the bases, the least and the greatest other elements, and drawn ones.
func edgeElements(draw func(int) int) []int {
	all := allElements()
	return []int{1, 4, 9, all[1], all[112], all[draw(113)], all[draw(113)]}
}

// somePairs returns bases: 1 in one place or in both, the same element in both, 4 and 9, and drawn ones.
func somePairs(draw func(int) int) []impl.Pair {
	all := allElements()
	list := []impl.Pair{{A: 1, B: 1}, {A: 4, B: 9}, {A: 9, B: 4}, {A: 4, B: 4}, {A: all[112], B: all[112]}, {A: 1, B: all[1+draw(112)]}, {A: all[1+draw(112)], B: 1}}
	for range 4 {
		list = append(list, impl.Pair{A: all[1+draw(112)], B: all[1+draw(112)]})
	}
	return list
}

// notPairs returns pairs of which one or both are no elements.
func notPairs() []impl.Pair {
	list := []impl.Pair{{}}
	for _, bad := range notElements() {
		list = append(list, impl.Pair{A: bad, B: 4}, impl.Pair{A: 4, B: bad}, impl.Pair{A: bad, B: bad})
	}
	return list
}

// brokenProofs returns a proof with one number that is none, or a commitment that is no element.
func brokenProofs(p impl.Proof) []impl.Proof {
	var list []impl.Proof
	for _, bad := range notNumbers() {
		list = append(list, impl.Proof{Com: p.Com, Chal: bad, Resp: p.Resp}, impl.Proof{Com: p.Com, Chal: p.Chal, Resp: bad})
	}
	for _, by := range []int{-226, -113, 113, 226, 113 << 40} { // numbers but for multiples of 113
		list = append(list, impl.Proof{Com: p.Com, Chal: p.Chal + by, Resp: p.Resp}, impl.Proof{Com: p.Com, Chal: p.Chal, Resp: p.Resp + by})
	}
	for _, bad := range append(notElements(), p.Com+227, p.Com-227, 227-p.Com, -p.Com) {
		list = append(list, impl.Proof{Com: bad, Chal: p.Chal, Resp: p.Resp})
	}
	return list
}

// brokenTwins returns a twin proof that is broken as brokenProofs does it, at either commitment.
func brokenTwins(p impl.Twin) []impl.Twin {
	var list []impl.Twin
	for _, a := range brokenProofs(impl.Proof{Com: p.ComA, Chal: p.Chal, Resp: p.Resp}) {
		list = append(list, impl.Twin{ComA: a.Com, ComB: p.ComB, Chal: a.Chal, Resp: a.Resp})
	}
	for _, b := range brokenProofs(impl.Proof{Com: p.ComB, Chal: p.Chal, Resp: p.Resp}) {
		list = append(list, impl.Twin{ComA: p.ComA, ComB: b.Com, Chal: b.Chal, Resp: b.Resp})
	}
	return list
}

func proofMake(t *testing.T, x proving) impl.Proof {
	t.Helper()
	p, ok := impl.ProofMake(x.secret, x.nonce, x.chal)
	if !ok {
		t.Fatalf("ProofMake(%v) is %v, %v", x, p, ok)
	}
	return p
}

func proofSecret(t *testing.T, key int, p, q impl.Proof) int {
	t.Helper()
	secret, ok := impl.ProofSecret(key, p, q)
	return wantNumber(t, fmt.Sprintf("ProofSecret(%d, %v, %v)", key, p, q), secret, ok)
}

func proofFeign(t *testing.T, key, chal, resp int) impl.Proof {
	t.Helper()
	p, ok := impl.ProofFeign(key, chal, resp)
	if !ok {
		t.Fatalf("ProofFeign(%d, %d, %d) is %v, %v", key, chal, resp, p, ok)
	}
	return p
}

func proofNonce(t *testing.T, secret, chal, resp int) int {
	t.Helper()
	nonce, ok := impl.ProofNonce(secret, chal, resp)
	return wantNumber(t, fmt.Sprintf("ProofNonce(%d, %d, %d)", secret, chal, resp), nonce, ok)
}

func twinMake(t *testing.T, base impl.Pair, x proving) impl.Twin {
	t.Helper()
	p, ok := impl.TwinMake(base, x.secret, x.nonce, x.chal)
	if !ok {
		t.Fatalf("TwinMake(%v, %v) is %v, %v", base, x, p, ok)
	}
	return p
}

func twinFeign(t *testing.T, base, key impl.Pair, chal, resp int) impl.Twin {
	t.Helper()
	p, ok := impl.TwinFeign(base, key, chal, resp)
	if !ok {
		t.Fatalf("TwinFeign(%v, %v, %d, %d) is %v, %v", base, key, chal, resp, p, ok)
	}
	return p
}

// P84
func TestProofGoodHoldsOfProofMake(t *testing.T) {
	table := tableOfElements()
	for _, x := range someProvings(draws(84)) {
		p := proofMake(t, x)
		if want := x.proof(table); p != want {
			t.Errorf("ProofMake(%v) is %v, not %v", x, p, want)
		}
		if key := table.powers[4][x.secret]; !impl.ProofGood(key, p) {
			t.Errorf("ProofGood(%d, %v) is false", key, p)
		}
		if nonce := proofNonce(t, x.secret, p.Chal, p.Resp); nonce != x.nonce {
			t.Errorf("ProofNonce of the response of %v is %d", x, nonce)
		}
	}
}

// P84: of what is no number.
func TestProofMakeIsToldJustOfNumbers(t *testing.T) {
	for _, bad := range notThree() {
		if p, ok := impl.ProofMake(bad.secret, bad.nonce, bad.chal); ok || p != (impl.Proof{}) {
			t.Errorf("ProofMake(%v) is %v, %v", bad, p, ok)
		}
		nonce, ok := impl.ProofNonce(bad.secret, bad.nonce, bad.chal)
		wantNothing(t, fmt.Sprintf("ProofNonce(%v)", bad), nonce, ok)
	}
}

// P84: it holds for no other key, unless the challenge is 0, and for no other commitment.
func TestProofGoodHoldsOfNoOtherKey(t *testing.T) {
	table := tableOfElements()
	for _, x := range fewProvings(draws(840)) {
		p := x.proof(table)
		for _, key := range allElements() {
			if got := impl.ProofGood(key, p); got != (key == table.powers[4][x.secret] || x.chal == 0) {
				t.Errorf("ProofGood(%d, %v) is %v, for %v", key, p, got, x)
			}
			other := impl.Proof{Com: key, Chal: p.Chal, Resp: p.Resp}
			if got := impl.ProofGood(table.powers[4][x.secret], other); got != (other == p) {
				t.Errorf("ProofGood of %v and the power with %d is %v", other, x.secret, got)
			}
		}
	}
}

// P84 and P85: of keys and commitments that are no elements, and of what is no number.
func TestProofGoodHoldsJustOfElementsAndNumbers(t *testing.T) {
	table := tableOfElements()
	for _, x := range fewProvings(draws(841)) {
		p, key := x.proof(table), table.powers[4][x.secret]
		for _, bad := range append(notElements(), key+227, key-227, 227-key, -key) {
			if impl.ProofGood(bad, p) {
				t.Errorf("ProofGood(%d, %v) is true", bad, p)
			}
		}
		for _, bad := range brokenProofs(p) {
			if impl.ProofGood(key, bad) {
				t.Errorf("ProofGood(%d, %v) is true", key, bad)
			}
		}
	}
	for _, key := range append(notElements(), allElements()...) {
		if impl.ProofGood(key, impl.Proof{}) {
			t.Errorf("ProofGood(%d, of nothing) is true", key)
		}
	}
}

// P85: each challenge and each response for some keys with some commitments, and each commitment and each response for some challenges.
func TestProofGoodHoldsOfNoOtherResponse(t *testing.T) {
	draw := draws(85)
	table := tableOfElements()
	wantOne := func(key, com, chal int) {
		t.Helper()
		good := 0
		for _, resp := range allNumbers() {
			p := impl.Proof{Com: com, Chal: chal, Resp: resp}
			got := impl.ProofGood(key, p)
			if got != table.good(key, p) {
				t.Errorf("ProofGood(%d, %v) is %v", key, p, got)
			}
			if got {
				good++
			}
		}
		if good != 1 {
			t.Errorf("for the key %d, the commitment %d and the challenge %d, %d responses are good", key, com, chal, good)
		}
	}
	for _, key := range edgeElements(draw) {
		for _, com := range edgeElements(draw) {
			for _, chal := range allNumbers() {
				wantOne(key, com, chal)
			}
		}
	}
	for _, one := range allElements() {
		for _, chal := range []int{0, 1, 112, draw(113)} {
			wantOne(one, allElements()[draw(113)], chal)
			wantOne(allElements()[draw(113)], one, chal)
		}
	}
}

// P86: for each secret, with different challenges, in either order; for the same challenge, the same proof and another commitment there is nothing.
func TestProofSecretIsTheSecret(t *testing.T) {
	draw := draws(86)
	table := tableOfElements()
	for _, secret := range allNumbers() {
		key := table.powers[4][secret]
		for _, nonce := range edgeNumbers(draw) {
			for _, first := range edgeNumbers(draw) {
				for _, second := range append(edgeNumbers(draw), first) {
					p, q := proofMake(t, proving{secret, nonce, first}), proofMake(t, proving{secret, nonce, second})
					if first == second {
						got, ok := impl.ProofSecret(key, p, q)
						wantNothing(t, fmt.Sprintf("ProofSecret(%d, %v, %v)", key, p, q), got, ok)
						continue
					}
					got := proofSecret(t, key, p, q)
					if got != secret || proofSecret(t, key, q, p) != secret || elementPow(t, 4, got) != key {
						t.Errorf("ProofSecret(%d, %v, %v) is %d", key, p, q, got)
					}
				}
			}
		}
	}
}

// P86: of each two challenges, for one secret and nonce; the responses are reckoned.
func TestProofSecretOfEachTwoChallenges(t *testing.T) {
	table := tableOfElements()
	for _, x := range []proving{{0, 0, 0}, {0, 5, 0}, {5, 0, 0}, {112, 112, 0}, {77, 30, 0}} {
		key := table.powers[4][x.secret]
		for _, first := range allNumbers() {
			for _, second := range allNumbers() {
				p, q := (proving{x.secret, x.nonce, first}).proof(table), (proving{x.secret, x.nonce, second}).proof(table)
				got, ok := impl.ProofSecret(key, p, q)
				if ok != (first != second) || ok && got != x.secret || !ok && got != 0 {
					t.Errorf("ProofSecret(%d, %v, %v) is %d, %v", key, p, q, got, ok)
				}
			}
		}
	}
}

// P86: of proofs of which one or both are not good, with different commitments, and for a key that is not theirs or no element.
func TestProofSecretIsToldJustOfGoodProofs(t *testing.T) {
	draw := draws(860)
	table := tableOfElements()
	wantNone := func(key int, p, q impl.Proof) {
		t.Helper()
		secret, ok := impl.ProofSecret(key, p, q)
		wantNothing(t, fmt.Sprintf("ProofSecret(%d, %v, %v)", key, p, q), secret, ok)
		secret, ok = impl.ProofSecret(key, q, p)
		wantNothing(t, fmt.Sprintf("ProofSecret(%d, %v, %v)", key, q, p), secret, ok)
	}
	for _, x := range fewProvings(draw) {
		key, p := table.powers[4][x.secret], x.proof(table)
		q := proving{x.secret, x.nonce, (x.chal + 1 + draw(112)) % 113}.proof(table)
		for more := 1; more < 113; more++ {
			wrong := impl.Proof{Com: q.Com, Chal: q.Chal, Resp: (q.Resp + more) % 113}
			wantNone(key, p, wrong)
			wantNone(key, wrong, impl.Proof{Com: p.Com, Chal: p.Chal, Resp: (p.Resp + more) % 113})
			wantNone(key, p, proving{x.secret, (x.nonce + more) % 113, q.Chal}.proof(table))
			wantNone(key, p, proving{x.secret, (x.nonce + more) % 113, p.Chal}.proof(table))
			wantNone(table.powers[4][(x.secret+more)%113], p, q)
		}
		wantNone(key, p, p)
		wantNone(key, p, impl.Proof{})
		wantNone(key, impl.Proof{}, impl.Proof{})
		for _, bad := range brokenProofs(q)[:200] {
			wantNone(key, p, bad)
		}
		for _, bad := range append(extremes(), 0, 2, 3, 225, 226, 227, key+227, key-227, 227-key) {
			wantNone(bad, p, q)
		}
	}
	for _, bad := range brokenProofs(proving{5, 7, 3}.proof(table)) {
		wantNone(116, bad, proving{5, 7, 4}.proof(table))
		wantNone(116, bad, bad)
	}
	for _, bad := range notElements() {
		wantNone(bad, proving{0, 7, 3}.proof(table), proving{0, 7, 4}.proof(table))
		wantNone(bad, proving{5, 7, 3}.proof(table), proving{5, 7, 4}.proof(table))
	}
}

// P87: for each key, challenge and response as two of three.
func TestProofGoodHoldsOfProofFeign(t *testing.T) {
	table := tableOfElements()
	for _, x := range someProvings(draws(87)) {
		key, chal, resp := table.powers[4][x.secret], x.nonce, x.chal
		p := proofFeign(t, key, chal, resp)
		if p.Chal != chal || p.Resp != resp || !table.good(key, p) || !impl.ProofGood(key, p) {
			t.Errorf("ProofFeign(%d, %d, %d) is %v", key, chal, resp, p)
		}
		nonce := proofNonce(t, elementLog(t, key), chal, resp)
		if made := proofMake(t, proving{x.secret, nonce, chal}); made != p {
			t.Errorf("ProofFeign(%d, %d, %d) is %v, and what is made %v", key, chal, resp, p, made)
		}
	}
}

// P87: of what is no element or no number.
func TestProofFeignIsToldJustOfElementsAndNumbers(t *testing.T) {
	wantNone := func(key, chal, resp int) {
		t.Helper()
		if p, ok := impl.ProofFeign(key, chal, resp); ok || p != (impl.Proof{}) {
			t.Errorf("ProofFeign(%d, %d, %d) is %v, %v", key, chal, resp, p, ok)
		}
	}
	for _, bad := range notNumbers() {
		for _, a := range []int{0, 1, 112} {
			for _, key := range []int{1, 4, 9, 116} {
				wantNone(key, bad, a)
				wantNone(key, a, bad)
			}
		}
		wantNone(4, bad, bad)
		wantNone(2, bad, bad)
	}
	for _, bad := range notElements() {
		for _, a := range []int{0, 1, 112} {
			wantNone(bad, a, 5)
			wantNone(bad, 5, a)
			wantNone(bad, 0, a)
		}
	}
}

// P88
func TestResponseOfProofMakeWithProofNonce(t *testing.T) {
	for _, x := range someProvings(draws(88)) {
		nonce := proofNonce(t, x.secret, x.nonce, x.chal)
		p := proofMake(t, proving{x.secret, nonce, x.nonce})
		if p.Resp != x.chal || p.Chal != x.nonce {
			t.Errorf("with the nonce %d, the proof of %d for %d is %v, and its response should be %d", nonce, x.secret, x.nonce, p, x.chal)
		}
	}
}

// P88: each secret has one nonce for a challenge and a response, and different ones have different nonces unless the challenge is 0.
func TestProofNonceOfEachSecret(t *testing.T) {
	for _, chal := range []int{0, 1, 2, 56, 112} {
		for _, resp := range allNumbers() {
			seen := map[int]bool{}
			for _, secret := range allNumbers() {
				seen[proofNonce(t, secret, chal, resp)] = true
			}
			if want := 1 + 112*min(chal, 1); len(seen) != want {
				t.Errorf("for the challenge %d and the response %d there are %d nonces, not %d", chal, resp, len(seen), want)
			}
		}
	}
}

// P89
func TestTwinGoodHoldsOfTwinMake(t *testing.T) {
	draw := draws(89)
	table := tableOfElements()
	wantMade := func(base impl.Pair, x proving) {
		t.Helper()
		p := twinMake(t, base, x)
		if want := x.twin(table, base); p != want {
			t.Errorf("TwinMake(%v, %v) is %v, not %v", base, x, p, want)
		}
		if key := table.power(base, x.secret); !impl.TwinGood(base, key, p) {
			t.Errorf("TwinGood(%v, %v, %v) is false", base, key, p)
		}
	}
	for _, base := range somePairs(draw) {
		for _, x := range fewProvings(draw) {
			wantMade(base, x)
		}
		for _, a := range allNumbers() {
			wantMade(base, proving{a, draw(113), draw(113)})
			wantMade(base, proving{draw(113), a, draw(113)})
			wantMade(base, proving{draw(113), draw(113), a})
		}
	}
	for _, a := range allElements() {
		for _, b := range allElements() {
			wantMade(impl.Pair{A: a, B: b}, proving{draw(113), draw(113), draw(113)})
		}
	}
}

// P89: of bases that are no elements, and of what is no number.
func TestTwinMakeIsToldJustOfElementsAndNumbers(t *testing.T) {
	wantNone := func(base impl.Pair, x proving) {
		t.Helper()
		if p, ok := impl.TwinMake(base, x.secret, x.nonce, x.chal); ok || p != (impl.Twin{}) {
			t.Errorf("TwinMake(%v, %v) is %v, %v", base, x, p, ok)
		}
	}
	for _, bad := range notThree() {
		for _, base := range []impl.Pair{{A: 1, B: 1}, {A: 4, B: 9}, {A: 9, B: 9}} {
			wantNone(base, bad)
		}
	}
	for _, bad := range notPairs() {
		for _, x := range []proving{{0, 0, 0}, {5, 7, 3}, {112, 112, 112}, {1, 0, 1}, {-1, 113, 5}} {
			wantNone(bad, x)
		}
	}
}

// P89: each commitment counts, and each part of the key unless the challenge is 0.
func TestTwinGoodHoldsOfNoOtherElement(t *testing.T) {
	draw := draws(890)
	table := tableOfElements()
	for _, base := range somePairs(draw) {
		for _, x := range fewProvings(draw) {
			p, key := x.twin(table, base), table.power(base, x.secret)
			g := allElements()[draw(113)]
			for _, other := range []impl.Twin{{ComA: g, ComB: p.ComB, Chal: p.Chal, Resp: p.Resp}, {ComA: p.ComA, ComB: g, Chal: p.Chal, Resp: p.Resp}, {ComA: p.ComB, ComB: p.ComA, Chal: p.Chal, Resp: p.Resp}} {
				if got := impl.TwinGood(base, key, other); got != (other == p) {
					t.Errorf("TwinGood(%v, %v, %v) is %v", base, key, other, got)
				}
			}
			for _, other := range []impl.Pair{{A: g, B: key.B}, {A: key.A, B: g}, {A: key.B, B: key.A}} {
				if got := impl.TwinGood(base, other, p); got != (other == key || p.Chal == 0) {
					t.Errorf("TwinGood(%v, %v, %v) is %v, and the key is %v", base, other, p, got, key)
				}
			}
			for _, other := range []impl.Pair{{A: g, B: base.B}, {A: base.A, B: g}, {A: base.B, B: base.A}} {
				if got := impl.TwinGood(other, key, p); got != (other == base || table.goodTwin(other, key, p)) {
					t.Errorf("TwinGood(%v, %v, %v) is %v, and the base is %v", other, key, p, got, base)
				}
			}
		}
	}
}

// P89 to P91: of bases, keys and commitments that are no elements, and of what is no number.
func TestTwinGoodHoldsJustOfElementsAndNumbers(t *testing.T) {
	table := tableOfElements()
	for _, base := range []impl.Pair{{A: 1, B: 1}, {A: 4, B: 9}, {A: 9, B: 9}} {
		for _, x := range []proving{{0, 0, 0}, {5, 7, 3}, {112, 112, 112}, {0, 5, 1}, {1, 0, 0}} {
			p, key := x.twin(table, base), table.power(base, x.secret)
			for _, bad := range brokenTwins(p) {
				if impl.TwinGood(base, key, bad) {
					t.Errorf("TwinGood(%v, %v, %v) is true", base, key, bad)
				}
			}
			for _, bad := range append(notPairs(), impl.Pair{A: base.A + 227, B: base.B}, impl.Pair{A: base.A, B: base.B - 227}, impl.Pair{A: key.A - 227, B: key.B}, impl.Pair{A: key.A, B: key.B + 227}, impl.Pair{A: 227 - key.A, B: 227 - key.B}) {
				if impl.TwinGood(bad, key, p) || impl.TwinGood(base, bad, p) || impl.TwinGood(bad, bad, p) {
					t.Errorf("TwinGood with %v in %v, %v, %v is true", bad, base, key, p)
				}
			}
			if impl.TwinGood(base, key, impl.Twin{}) || impl.TwinGood(impl.Pair{}, impl.Pair{}, p) {
				t.Errorf("TwinGood of nothing is true, for %v, %v", base, key)
			}
		}
	}
}

// goodAnswers returns all challenges and responses with which TwinGood holds for commitments.
func goodAnswers(t *testing.T, table elementTable, base, key impl.Pair, p impl.Twin) []impl.Twin {
	t.Helper()
	var list []impl.Twin
	for _, p.Chal = range allNumbers() {
		for _, p.Resp = range allNumbers() {
			got := impl.TwinGood(base, key, p)
			if got != table.goodTwin(base, key, p) {
				t.Errorf("TwinGood(%v, %v, %v) is %v", base, key, p, got)
			}
			if got {
				list = append(list, p)
			}
		}
	}
	return list
}

// isOnePower reports whether keys are powers of bases with one exponent.
func (table elementTable) isOnePower(base, key impl.Pair) bool {
	return slices.ContainsFunc(allNumbers(), func(e int) bool { return table.power(base, e) == key })
}

// P90: all challenges and responses, for keys that are such powers, too: then each challenge has one response, unless the bases are 1 and each response is good.
func TestTwinGoodHoldsForNoOtherChallenge(t *testing.T) {
	draw := draws(90)
	table := tableOfElements()
	wantAnswers := func(base, key impl.Pair, chal, resp int) {
		t.Helper()
		p := twinFeign(t, base, key, chal, resp)
		list := goodAnswers(t, table, base, key, p)
		if !slices.Contains(list, p) {
			t.Errorf("TwinGood(%v, %v, %v) is false", base, key, p)
		}
		if table.isOnePower(base, key) {
			if want := 113 * max(1, 113*oneIf(base == impl.Pair{A: 1, B: 1})); len(list) != want {
				t.Errorf("for %v, %v and the commitments of %v, %d answers are good, not %d", base, key, p, len(list), want)
			}
			return
		}
		if slices.ContainsFunc(list, func(q impl.Twin) bool { return q.Chal != chal }) {
			t.Errorf("for %v and %v, TwinGood holds for other challenges with the commitments of %v", base, key, p)
		}
	}
	for _, base := range somePairs(draw) {
		all := allElements()
		keys := []impl.Pair{{A: 1, B: 1}, {A: 1, B: 4}, {A: 9, B: 1}, base, {A: base.A, B: 1}, {A: all[draw(113)], B: all[draw(113)]}, table.power(base, draw(113)), table.power(base, 112)}
		for i, key := range keys {
			wantAnswers(base, key, edgeNumbers(draw)[i%6], edgeNumbers(draw)[draw(6)])
		}
	}
}

func oneIf(is bool) int {
	if is {
		return 1
	}
	return 0
}

// P91: the keys are powers of the bases with one exponent, and such that are not.
func TestTwinGoodHoldsOfTwinFeign(t *testing.T) {
	draw := draws(91)
	table := tableOfElements()
	wantFeigned := func(base, key impl.Pair, chal, resp int) {
		t.Helper()
		p := twinFeign(t, base, key, chal, resp)
		if p.Chal != chal || p.Resp != resp || !table.goodTwin(base, key, p) || !impl.TwinGood(base, key, p) {
			t.Errorf("TwinFeign(%v, %v, %d, %d) is %v", base, key, chal, resp, p)
		}
	}
	for _, base := range somePairs(draw) {
		for _, x := range fewProvings(draw) {
			p, key := x.twin(table, base), table.power(base, x.secret)
			wantFeigned(base, key, x.chal, x.nonce)
			if got := twinFeign(t, base, key, p.Chal, p.Resp); got != p {
				t.Errorf("TwinFeign(%v, %v, %d, %d) is %v, not %v", base, key, p.Chal, p.Resp, got, p)
			}
			wantFeigned(base, impl.Pair{A: edgeElements(draw)[draw(7)], B: edgeElements(draw)[draw(7)]}, x.chal, x.nonce)
		}
		for _, a := range allNumbers() {
			wantFeigned(base, base, a, draw(113))
			wantFeigned(base, impl.Pair{A: base.B, B: base.A}, draw(113), a)
		}
	}
	for _, a := range allElements() {
		for _, b := range allElements() {
			wantFeigned(impl.Pair{A: 4, B: 9}, impl.Pair{A: a, B: b}, draw(113), draw(113))
			wantFeigned(impl.Pair{A: a, B: b}, impl.Pair{A: 4, B: 9}, draw(113), draw(113))
		}
	}
}

// P91: of bases and keys that are no elements, and of what is no number.
func TestTwinFeignIsToldJustOfElementsAndNumbers(t *testing.T) {
	wantNone := func(base, key impl.Pair, chal, resp int) {
		t.Helper()
		if p, ok := impl.TwinFeign(base, key, chal, resp); ok || p != (impl.Twin{}) {
			t.Errorf("TwinFeign(%v, %v, %d, %d) is %v, %v", base, key, chal, resp, p, ok)
		}
	}
	fine := []impl.Pair{{A: 1, B: 1}, {A: 4, B: 9}, {A: 9, B: 9}}
	for _, bad := range notPairs() {
		for _, base := range fine {
			wantNone(base, bad, 0, 0)
			wantNone(base, bad, 5, 112)
			wantNone(bad, base, 0, 0)
			wantNone(bad, base, 112, 5)
		}
		wantNone(bad, bad, 0, 0)
	}
	for _, bad := range notNumbers() {
		for _, base := range fine {
			wantNone(base, fine[0], bad, 0)
			wantNone(base, fine[1], 0, bad)
			wantNone(base, base, bad, bad)
		}
	}
}

// P84 to P91, with answers reckoned by hand.
func TestKnowledgeReckonedByHand(t *testing.T) {
	for _, c := range []struct {
		x    proving
		key  int
		want impl.Proof
	}{
		{proving{5, 7, 3}, 116, impl.Proof{Com: 40, Chal: 3, Resp: 22}}, // 4^5 is 1024, 4^7 is 16384
		{proving{5, 7, 4}, 116, impl.Proof{Com: 40, Chal: 4, Resp: 27}},
		{proving{0, 0, 0}, 1, impl.Proof{Com: 1, Chal: 0, Resp: 0}},
		{proving{0, 1, 112}, 1, impl.Proof{Com: 4, Chal: 112, Resp: 1}},
		{proving{1, 0, 112}, 4, impl.Proof{Com: 1, Chal: 112, Resp: 112}},
		{proving{112, 112, 112}, 57, impl.Proof{Com: 57, Chal: 112, Resp: 0}}, // 57 times 4 is 228; -1 and 1 are 0
		{proving{2, 112, 1}, 16, impl.Proof{Com: 57, Chal: 1, Resp: 1}},
	} {
		p := proofMake(t, c.x)
		if p != c.want || proofFeign(t, c.key, p.Chal, p.Resp) != p || proofNonce(t, c.x.secret, p.Chal, p.Resp) != c.x.nonce || !impl.ProofGood(c.key, p) {
			t.Errorf("ProofMake(%v) is %v, not %v", c.x, p, c.want)
		}
	}
	base, key := impl.Pair{A: 4, B: 9}, impl.Pair{A: 116, B: 29} // 9^5 is 59049
	want := impl.Twin{ComA: 40, ComB: 79, Chal: 3, Resp: 22}     // 9^7 is 4782969
	if p := twinMake(t, base, proving{5, 7, 3}); p != want || twinFeign(t, base, key, 3, 22) != p || !impl.TwinGood(base, key, p) {
		t.Errorf("TwinMake(%v, 5, 7, 3) is %v, not %v", base, p, want)
	}
	if impl.TwinGood(impl.Pair{A: 9, B: 4}, key, want) || impl.TwinGood(base, impl.Pair{A: 116, B: 116}, want) {
		t.Error("TwinGood holds of other bases, or of another key")
	}
}

// atTheSameTime calls a function four times at the same time, twice each with the same numbers that are drawn.
func atTheSameTime(seed uint32, call func(draw func(int) int)) {
	var together sync.WaitGroup
	for part := range uint32(4) {
		together.Go(func() { call(draws(seed + part%2)) })
	}
	together.Wait()
}

// P84 to P91: what was told before does not count, nor what is told at the same time.
func TestKnowledgeKeepsNoState(t *testing.T) {
	table := tableOfElements()
	atTheSameTime(842, func(draw func(int) int) {
		list, base := fewProvings(draw), somePairs(draw)[10]
		for range 2 {
			for _, x := range list {
				impl.ProofMake(-1, 113, 5)
				impl.TwinFeign(impl.Pair{}, base, 5, 5)
				p, ok := impl.ProofMake(x.secret, x.nonce, x.chal)
				q, fine := impl.TwinMake(base, x.secret, x.nonce, x.chal)
				if !ok || !fine || p != x.proof(table) || q != x.twin(table, base) {
					t.Errorf("of %v there are %v and %v", x, p, q)
				}
			}
			slices.Reverse(list)
		}
	})
}
