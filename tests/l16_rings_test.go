package tests

import (
	"fmt"
	"math"
	"slices"
	"testing"

	"loop.example/underveil/impl"
)

// mixReckoned reckons what is mixed of some lists, one behind the other.
func mixReckoned(lists ...[]int) int {
	m := uint64(7)
	for _, v := range slices.Concat(lists...) {
		m = (m*(m+31) + uint64(v) + 1) % 65521
	}
	return int(m % 113)
}

// ringMixed reckons what the challenges of the proofs of a signature must add up to.
func ringMixed(keys, message []int, list []impl.Proof) int {
	var coms []int
	for _, p := range list {
		coms = append(coms, p.Com)
	}
	return mixReckoned(message, keys, coms)
}

// linkMixed reckons what the challenges of the proofs of a linked signature must add up to.
func linkMixed(keys, message []int, tag int, list []impl.Twin) int {
	var coms []int
	for _, p := range list {
		coms = append(coms, p.ComA, p.ComB)
	}
	return mixReckoned(message, keys, []int{tag}, coms)
}

// twins reckons the twin proofs of which the responses are those of the proofs, and the tag is the power of 9 with an exponent.
func (list proofs) twins(table elementTable, tagged int) []impl.Twin {
	twins := make([]impl.Twin, len(list))
	for i, x := range list {
		com := table.powers[9][(x.response()+113*113-x.chal*tagged)%113]
		twins[i] = impl.Twin{ComA: table.powers[4][x.nonce], ComB: com, Chal: x.chal, Resp: x.response()}
	}
	return twins
}

// addingUpTo returns proofs with another challenge for the key with an index, so that they add up to a challenge.
func (list proofs) addingUpTo(index, chal int) proofs {
	return list.with(index, (chal+113-list.with(index, 0).chal())%113)
}

// ringing is what is signed by a ring; the challenge is not given, but mixed.
type ringing struct {
	eithering
	message []int
}

// signed reckons the challenges and nonces of the signature.
func (r ringing) signed(table elementTable) proofs {
	x := r.proofs(table)
	return x.addingUpTo(r.index, ringMixed(r.keys, r.message, x.told(table)))
}

// linked reckons the tag, and the challenges and nonces of the linked signature.
func (r ringing) linked(table elementTable) (int, proofs) {
	x, tag := r.proofs(table), table.powers[9][r.secret]
	return tag, x.addingUpTo(r.index, linkMixed(r.keys, r.message, tag, x.twins(table, r.secret)))
}

func (r ringing) ringSign() ([]impl.Proof, bool) {
	return impl.RingSign(r.keys, r.index, r.secret, r.message, r.tape)
}

func (r ringing) linkSign() (int, []impl.Twin, bool) {
	return impl.LinkSign(r.keys, r.index, r.secret, r.message, r.tape)
}

// someMessages returns messages of 0 to 8 numbers: zeros, the greatest numbers, and drawn ones.
func someMessages(draw func(int) int) [][]int {
	var list [][]int
	for n := range 9 {
		list = append(list, make([]int, n), slices.Repeat([]int{112}, n), drawnList(draw, n), drawnPolynomial(draw, n))
	}
	return list
}

// notMessages returns what are no messages: too long, or with one that is no number.
func notMessages() [][]int {
	list := [][]int{make([]int, 9), slices.Repeat([]int{112}, 9), slices.Repeat([]int{5}, 10), make([]int, 1000)}
	for n := 1; n <= 8; n++ {
		for i := range n {
			for _, bad := range append(extremes(), 227, 228) {
				message := slices.Repeat([]int{1}, n)
				message[i] = bad
				list = append(list, message)
			}
		}
	}
	return list
}

// changedMessages returns messages that differ from one: in one number, in the order of the numbers, or by a number more or less.
func changedMessages(draw func(int) int, message []int) [][]int {
	list := [][]int{reversed(message)}
	for i := range message {
		for _, more := range []int{1, 112, 1 + draw(112)} {
			other := slices.Clone(message)
			other[i] = (other[i] + more) % 113
			list = append(list, other)
		}
		list = append(list, slices.Delete(slices.Clone(message), i, i+1), slices.Concat(message[i:], message[:i]))
	}
	for i := range 9 * (8 - len(message)) {
		list = append(list, slices.Insert(slices.Clone(message), i%(len(message)+1), edgeNumbers(draw)[i%6]))
	}
	return slices.DeleteFunc(list, func(other []int) bool { return len(other) > 8 || slices.Equal(other, message) })
}

// someRingings returns what is signed by each index of 1 to 6 keys, by tapes of zeros, of the greatest numbers and drawn ones, with some messages.
func someRingings(draw func(int) int) []ringing {
	var list []ringing
	messages := someMessages(draw)
	for i, e := range someEitherings(draw) {
		e.chal = 0
		list = append(list, ringing{e, messages[i%36]}, ringing{e, messages[draw(36)]})
	}
	return list
}

// notRingings returns what cannot be signed, as the ring, the index, the secret, the tape or the message is broken.
func notRingings(draw func(int) int) []ringing {
	var list []ringing
	table := tableOfElements()
	for i, e := range notEitherings(draw) {
		if e.chal = 0; !e.fine(table) {
			list = append(list, ringing{e, someMessages(draw)[i%36]})
		}
	}
	fine := someEitherings(draw)
	for i, bad := range slices.Concat(notMessages(), notMessages()) {
		fine[i%len(fine)].chal = 0
		list = append(list, ringing{fine[i%len(fine)], bad})
	}
	return list
}

// goodProofs reckons whether there are 1 to 6 keys, and each proof is good for its key.
func goodProofs[P any](table elementTable, keys []int, list []P, good func(key int, p P) bool) bool {
	if len(keys) < 1 || len(keys) > 6 || len(list) != len(keys) {
		return false
	}
	for i, p := range list {
		if !table.isElement(keys[i]) || !good(keys[i], p) {
			return false
		}
	}
	return true
}

func goodMessage(message []int) bool {
	return len(message) <= 8 && !slices.ContainsFunc(message, func(a int) bool { return !isNumber(a) })
}

// goodRing reckons whether a signature is good.
func (table elementTable) goodRing(keys, message []int, list []impl.Proof) bool {
	sum := 0
	for _, p := range list {
		sum += p.Chal
	}
	return goodMessage(message) && goodProofs(table, keys, list, table.good) && sum%113 == ringMixed(keys, message, list)
}

// goodLink reckons whether a linked signature is good.
func (table elementTable) goodLink(keys, message []int, tag int, list []impl.Twin) bool {
	sum := 0
	for _, p := range list {
		sum += p.Chal
	}
	good := func(key int, p impl.Twin) bool {
		return table.goodTwin(impl.Pair{A: 4, B: 9}, impl.Pair{A: key, B: tag}, p)
	}
	return goodMessage(message) && table.isElement(tag) && goodProofs(table, keys, list, good) && sum%113 == linkMixed(keys, message, tag, list)
}

// feignedLink draws challenges and responses for keys, until they add up to what is mixed with the power of 9 as tag that has an exponent.
func feignedLink(draw func(int) int, table elementTable, secrets proofs, tagged int, message []int) []impl.Twin {
	keys, tag := secrets.keys(), table.powers[9][tagged]
	for {
		x := drawnProofs(draw, len(secrets))
		for i := range x {
			x[i].secret = secrets[i].secret
		}
		if list := x.twins(table, tagged); x.chal() == linkMixed(keys, message, tag, list) {
			return list
		}
	}
}

// brokenTwinLists returns lists of twin proofs that are too few or too many, or of which one is not good.
func brokenTwinLists(draw func(int) int, list []impl.Twin) [][]impl.Twin {
	return brokenListsOf(list, func(p impl.Twin) []impl.Twin {
		wrong := []impl.Twin{p, p, p, {}}
		wrong[0].Resp = (p.Resp + 1 + draw(112)) % 113
		wrong[1].ComA = p.ComA * 4 % 227
		wrong[2].ComB = p.ComB * 9 % 227
		return append(wrong, fewOf(draw, brokenTwins(p))...)
	})
}

func ringSign(t *testing.T, r ringing) []impl.Proof {
	t.Helper()
	list, ok := r.ringSign()
	if !ok || len(list) != len(r.keys) {
		t.Fatalf("RingSign(%v) is %v, %v", r, list, ok)
	}
	return list
}

func linkSign(t *testing.T, r ringing) (int, []impl.Twin) {
	t.Helper()
	tag, list, ok := r.linkSign()
	if !ok || len(list) != len(r.keys) {
		t.Fatalf("LinkSign(%v) is %d, %v, %v", r, tag, list, ok)
	}
	return wantElement(t, "the tag", tag, ok), list
}

func linkTape(t *testing.T, keys, message []int, tag int, list []impl.Twin, index, secret int) []int {
	t.Helper()
	tape, ok := impl.LinkTape(keys, message, tag, list, index, secret)
	return wantList(t, fmt.Sprintf("LinkTape(%v, %v, %d, %v, %d, %d)", keys, message, tag, list, index, secret), tape, ok, 2*len(keys))
}

// wantNoTape fails the test unless LinkTape tells nothing.
func wantNoTape(t *testing.T, keys, message []int, tag int, list []impl.Twin, index, secret int) {
	t.Helper()
	tape, ok := impl.LinkTape(keys, message, tag, list, index, secret)
	wantNoList(t, fmt.Sprintf("LinkTape(%v, %v, %d, %v, %d, %d)", keys, message, tag, list, index, secret), tape, ok)
}

// wantLinkGood fails the test unless LinkGood is as reckoned; it returns it.
func wantLinkGood(t *testing.T, table elementTable, keys, message []int, tag int, list []impl.Twin) bool {
	t.Helper()
	got := impl.LinkGood(keys, message, tag, list)
	if got != table.goodLink(keys, message, tag, list) {
		t.Errorf("LinkGood(%v, %v, %d, %v) is %v", keys, message, tag, list, got)
	}
	return got
}

// wantRingGood fails the test unless RingGood is as reckoned; it returns it.
func wantRingGood(t *testing.T, table elementTable, keys, message []int, list []impl.Proof) bool {
	t.Helper()
	got := impl.RingGood(keys, message, list)
	if got != table.goodRing(keys, message, list) {
		t.Errorf("RingGood(%v, %v, %v) is %v", keys, message, list, got)
	}
	return got
}

// P96: no number, one number, two numbers, and long lists.
func TestMixIsANumber(t *testing.T) {
	draw := draws(96)
	wantMixed := func(list []int) {
		t.Helper()
		got := impl.Mix(list)
		if want := mixReckoned(list); wantNumber(t, "Mix", got, true) != want {
			t.Errorf("Mix of %d numbers, %v.., is %d, not %d", len(list), list[:min(len(list), 9)], got, want)
		}
	}
	wantMixed(nil)
	wantMixed([]int{})
	for a := range 227 {
		wantMixed([]int{a})
		for b := range 227 {
			wantMixed([]int{a, b})
		}
	}
	for n := range 100 {
		drawn := make([]int, 20*n)
		for i := range drawn {
			drawn[i] = draw(227)
		}
		wantMixed(drawn)
		wantMixed(make([]int, n))
		wantMixed(slices.Repeat([]int{226}, n))
		wantMixed(slices.Repeat([]int{226, 0, 113}, 7*n))
	}
	wantMixed(slices.Repeat([]int{226, 1, 112}, 40000))
}

// P96
func TestMixReckonedByHand(t *testing.T) {
	for _, c := range []struct {
		list []int
		want int
	}{
		{nil, 7},
		{[]int{0}, 41},      // 49 + 217 + 0 + 1 is 267
		{[]int{1}, 42},      // 268
		{[]int{226}, 41},    // 493
		{[]int{0, 0}, 34},   // 71289 + 8277 + 0 + 1 is 79567, the remainder of which is 14046
		{[]int{0, 1}, 35},   // 14047
		{[]int{1, 0}, 35},   // 71824 + 8308 + 0 + 1 is 80133, the remainder of which is 14612
		{[]int{0, 226}, 34}, // 14272
	} {
		if got := impl.Mix(c.list); got != c.want {
			t.Errorf("Mix(%v) is %d, not %d", c.list, got, c.want)
		}
	}
}

// P96: of what is not in 0..226, wherever it is.
func TestMixOfWhatCannotBeMixed(t *testing.T) {
	for _, bad := range []int{math.MinInt, math.MinInt + 1, -1 << 32, -228, -227, -226, -113, -2, -1, 227, 228, 340, 454, 65521, 1 << 32, math.MaxInt - 1, math.MaxInt} {
		for n := 1; n <= 12; n++ {
			for i := range n {
				list := slices.Repeat([]int{226}, n)
				list[i] = bad
				if got := impl.Mix(list); got != -1 {
					t.Errorf("Mix(%v) is %d", list, got)
				}
			}
		}
		if got := impl.Mix(append(make([]int, 10000), bad)); got != -1 {
			t.Errorf("Mix of zeros and %d is %d", bad, got)
		}
		if got := impl.Mix([]int{bad, bad}); got != -1 {
			t.Errorf("Mix of %d twice is %d", bad, got)
		}
	}
}

// P97
func TestRingGoodHoldsOfRingSign(t *testing.T) {
	table := tableOfElements()
	for _, r := range someRingings(draws(97)) {
		list := ringSign(t, r)
		if want := r.signed(table).told(table); !slices.Equal(list, want) {
			t.Errorf("RingSign(%v) is %v, not %v", r, list, want)
		}
		if !impl.RingGood(r.keys, r.message, list) || !impl.EitherGood(r.keys, ringMixed(r.keys, r.message, list), list) {
			t.Errorf("RingGood(%v, %v, %v) is false", r.keys, r.message, list)
		}
	}
}

// wantFewGood fails the test unless what is signed is good of few messages that are changed; good tells it of a message.
func wantFewGood(t *testing.T, seed uint32, signed func(r ringing) (good func(message []int) bool)) {
	t.Helper()
	draw := draws(seed)
	some, all := 0, 0
	for _, r := range someRingings(draw) {
		good := signed(r)
		for _, other := range changedMessages(draw, r.message) {
			all++
			some += oneIf(good(other))
		}
	}
	if all < 10000 || some > all/50 {
		t.Errorf("of %d messages that are changed, %d are signed", all, some)
	}
}

// P97: of a message that is changed it holds by chance only, if the same is mixed.
func TestRingGoodOfAMessageThatIsChanged(t *testing.T) {
	table := tableOfElements()
	wantFewGood(t, 970, func(r ringing) func([]int) bool {
		list := ringSign(t, r)
		return func(message []int) bool { return wantRingGood(t, table, r.keys, message, list) }
	})
}

// P97: of keys that are changed, in another order or fewer, and of other challenges.
func TestRingGoodOfARingThatIsChanged(t *testing.T) {
	draw := draws(971)
	table := tableOfElements()
	for _, r := range someRingings(draw) {
		list, x := ringSign(t, r), r.signed(table)
		wantRingGood(t, table, reversed(r.keys), r.message, reversed(list))
		wantRingGood(t, table, reversed(r.keys), r.message, list)
		wantRingGood(t, table, r.keys[1:], r.message, list[1:])
		for i := range x {
			keys := slices.Clone(r.keys)
			keys[i] = allElements()[draw(113)]
			wantRingGood(t, table, keys, r.message, list)
			for more := 1; more < 113; more += 1 + draw(20) {
				other := x.with(i, (x[i].chal+more)%113).told(table)
				if wantRingGood(t, table, r.keys, r.message, other) {
					t.Errorf("RingGood(%v, %v, %v) is true, and of %v", r.keys, r.message, other, list)
				}
			}
		}
	}
}

// P97: a signature that fits what is no message, no key or seven keys.
func TestRingGoodHoldsJustOfMessagesAndRings(t *testing.T) {
	draw := draws(972)
	table := tableOfElements()
	rings := someProofs(draw)
	wantNone := func(keys, message []int, list []impl.Proof) {
		t.Helper()
		if impl.RingGood(keys, message, list) {
			t.Errorf("RingGood(%v, %v, %v) is true", keys, message, list)
		}
	}
	for i, bad := range notMessages() {
		x := rings[i%len(rings)]
		wantNone(x.keys(), bad, x.addingUpTo(i%len(x), ringMixed(x.keys(), bad, x.told(table))).told(table))
	}
	for _, n := range []int{7, 8, 100} {
		for _, x := range []proofs{make(proofs, n), drawnProofs(draw, n)} {
			wantNone(x.keys(), []int{5}, x.addingUpTo(n-1, ringMixed(x.keys(), []int{5}, x.told(table))).told(table))
		}
	}
	mixedZero := 0
	for a := range 113 { // what is mixed of some messages alone is 0, as is the sum of no challenges
		for b := range 113 {
			mixedZero += oneIf(mixReckoned([]int{a, b}) == 0)
			wantNone(nil, []int{a, b}, nil)
			wantNone([]int{}, []int{a, b}, []impl.Proof{})
		}
	}
	if mixedZero == 0 {
		t.Error("of no message 0 is mixed")
	}
}

// P97: of what are no keys, and of proofs that are too few, too many or not good.
func TestRingGoodHoldsJustOfGoodProofs(t *testing.T) {
	draw := draws(973)
	table := tableOfElements()
	for i, x := range someProofs(draw) {
		message := someMessages(draw)[i]
		x = x.addingUpTo(i%len(x), ringMixed(x.keys(), message, x.told(table)))
		keys, list := x.keys(), x.told(table)
		if !wantRingGood(t, table, keys, message, list) {
			t.Errorf("RingGood(%v, %v, %v) is false", keys, message, list)
		}
		for _, bad := range notKeysOf(keys) {
			if impl.RingGood(bad, message, list) {
				t.Errorf("RingGood(%v, %v, %v) is true", bad, message, list)
			}
		}
		for _, bad := range brokenProofLists(draw, list) {
			if impl.RingGood(keys, message, bad) {
				t.Errorf("RingGood(%v, %v, %v) is true", keys, message, bad)
			}
		}
	}
}

// P97 and P99: of a ring, an index, a secret, a tape or a message that is none.
func TestRingsSignJustMessagesByAKnownKey(t *testing.T) {
	wantNone := func(bad ringing) {
		t.Helper()
		if list, ok := bad.ringSign(); ok || len(list) != 0 {
			t.Errorf("RingSign(%v) is %v, %v", bad, list, ok)
		}
		if tag, list, ok := bad.linkSign(); ok || tag != 0 || len(list) != 0 {
			t.Errorf("LinkSign(%v) is %d, %v, %v", bad, tag, list, ok)
		}
	}
	list := notRingings(draws(974))
	if len(list) < 10000 {
		t.Errorf("just %d are tried", len(list))
	}
	for _, bad := range list {
		wantNone(bad)
	}
	for _, bad := range notNumbers() {
		wantNone(ringing{eithering{[]int{1, 1}, 0, bad, 0, make([]int, 4)}, nil})
		wantNone(ringing{eithering{[]int{1, 1}, bad, 0, 0, make([]int, 4)}, nil})
		wantNone(ringing{eithering{[]int{1, 1}, 0, 0, 0, []int{0, 0, bad, 0}}, nil})
		wantNone(ringing{eithering{[]int{1, 1}, 0, 0, 0, []int{0, bad, 0, 0}}, nil})
		wantNone(ringing{eithering{[]int{1, 1}, 0, 0, 0, make([]int, 4)}, []int{bad}})
	}
	for _, bad := range notElements() {
		wantNone(ringing{eithering{[]int{1, bad}, 0, 0, 0, make([]int, 4)}, nil})
		wantNone(ringing{eithering{[]int{bad, 1}, 0, 0, 0, make([]int, 4)}, nil})
	}
}

// P98: also for the key that signed.
func TestEachKeyOfARingSignsJustSo(t *testing.T) {
	table := tableOfElements()
	for _, r := range someRingings(draws(98)) {
		list, x := ringSign(t, r), r.signed(table)
		for index, key := range r.keys {
			secret := elementLog(t, key)
			tape := eitherTape(t, r.keys, list, index, secret)
			other := ringing{eithering{r.keys, index, secret, 0, tape}, r.message}
			if got := ringSign(t, other); !slices.Equal(got, list) || !slices.Equal(tape, x.tape(index)) {
				t.Errorf("RingSign(%v) is %v, and with the index %d by EitherTape %v", r, list, index, got)
			}
		}
	}
}

// P97 to P99: the number of the tape that does not count may be each number.
func TestRingsSignWithTheNumberThatDoesNotCount(t *testing.T) {
	for _, r := range someRingings(draws(980)) {
		list := ringSign(t, r)
		tag, twins := linkSign(t, r)
		r.tape = slices.Clone(r.tape)
		for _, a := range []int{0, 1, 57, 112} {
			r.tape[2*r.index+1] = a
			if again := ringSign(t, r); !slices.Equal(again, list) {
				t.Errorf("RingSign(%v) is %v, and %v before", r, again, list)
			}
			if same, again := linkSign(t, r); same != tag || !slices.Equal(again, twins) {
				t.Errorf("LinkSign(%v) is %d, %v, and %d, %v before", r, same, again, tag, twins)
			}
		}
	}
}

// P99
func TestLinkGoodHoldsOfLinkSign(t *testing.T) {
	draw := draws(99)
	table := tableOfElements()
	for _, r := range someRingings(draw) {
		tag, list := linkSign(t, r)
		wantTag, x := r.linked(table)
		if want := x.twins(table, r.secret); tag != wantTag || !slices.Equal(list, want) {
			t.Errorf("LinkSign(%v) is %d, %v, not %d, %v", r, tag, list, wantTag, want)
		}
		if !wantLinkGood(t, table, r.keys, r.message, tag, list) {
			t.Errorf("LinkGood(%v, %v, %d, %v) is false", r.keys, r.message, tag, list)
		}
		other := r
		other.message, other.tape = someMessages(draw)[draw(36)], drawnList(draw, len(r.tape))
		if same, twins := linkSign(t, other); same != tag || !impl.LinkGood(r.keys, other.message, same, twins) {
			t.Errorf("LinkSign(%v) has the tag %d, and %v %d", r, tag, other, same)
		}
	}
}

// P99: the tag is that of the secret, whatever the ring is, and different ones have different tags.
func TestTagsOfEachTwoSecrets(t *testing.T) {
	draw := draws(990)
	table := tableOfElements()
	tags := map[int]int{}
	for _, secret := range allNumbers() {
		for n := 1; n <= 6; n++ {
			x, index := drawnProofs(draw, n), draw(n)
			x[index].secret = secret
			tag, _ := linkSign(t, ringing{eithering{x.keys(), index, secret, 0, drawnList(draw, 2*n)}, drawnList(draw, draw(9))})
			if before, ok := tags[tag]; ok && before != secret || tag != table.powers[9][secret] {
				t.Errorf("the tag of %d is %d, as of %d", secret, tag, before)
			}
			tags[tag] = secret
		}
	}
	if len(tags) != 113 {
		t.Errorf("of 113 secrets there are %d tags", len(tags))
	}
}

// P99: of a message that is changed it holds by chance only, if the same is mixed.
func TestLinkGoodOfAMessageThatIsChanged(t *testing.T) {
	table := tableOfElements()
	wantFewGood(t, 991, func(r ringing) func([]int) bool {
		tag, list := linkSign(t, r)
		return func(message []int) bool { return wantLinkGood(t, table, r.keys, message, tag, list) }
	})
}

// P99: of another tag, of keys that are changed, in another order or fewer, and of other challenges.
func TestLinkGoodOfATagOrARingThatIsChanged(t *testing.T) {
	draw := draws(992)
	table := tableOfElements()
	for _, r := range someRingings(draw) {
		tag, list := linkSign(t, r)
		_, x := r.linked(table)
		for range 9 {
			wantLinkGood(t, table, r.keys, r.message, allElements()[draw(113)], list)
		}
		for _, bad := range append(extremes(), 0, 2, 3, 226, 227, tag+227, tag-227, 227-tag, -tag) {
			wantLinkGood(t, table, r.keys, r.message, bad, list)
		}
		wantLinkGood(t, table, reversed(r.keys), r.message, tag, reversed(list))
		wantLinkGood(t, table, reversed(r.keys), r.message, tag, list)
		wantLinkGood(t, table, r.keys[1:], r.message, tag, list[1:])
		for i := range x {
			keys := slices.Clone(r.keys)
			keys[i] = allElements()[draw(113)]
			wantLinkGood(t, table, keys, r.message, tag, list)
			for more := 1; more < 113; more += 1 + draw(20) {
				wantLinkGood(t, table, r.keys, r.message, tag, x.with(i, (x[i].chal+more)%113).twins(table, r.secret))
			}
		}
	}
}

// P99: the signatures of zeros, with all challenges 0 but one, so that no other tag but this one and no other key counts for the others.
func TestLinkGoodWithChallengesOfZero(t *testing.T) {
	table := tableOfElements()
	for n := 1; n <= 6; n++ {
		for _, secret := range []int{0, 1, 112} {
			x := make(proofs, n)
			x[n-1].secret = secret
			tag, list := linkSign(t, ringing{eithering{x.keys(), n - 1, secret, 0, make([]int, 2*n)}, []int{1, 2}})
			good := 0
			for _, other := range allElements() {
				good += oneIf(wantLinkGood(t, table, x.keys(), []int{1, 2}, other, list))
			}
			if good != 1 || !impl.LinkGood(x.keys(), []int{1, 2}, tag, list) {
				t.Errorf("of %d keys and the secret %d, %d tags are good", n, secret, good)
			}
		}
	}
}

// P99: a signature that fits what is no message, no key or seven keys.
func TestLinkGoodHoldsJustOfMessagesAndRings(t *testing.T) {
	draw := draws(993)
	table := tableOfElements()
	rings := someProofs(draw)
	wantNone := func(keys, message []int, tag int, list []impl.Twin) {
		t.Helper()
		if impl.LinkGood(keys, message, tag, list) {
			t.Errorf("LinkGood(%v, %v, %d, %v) is true", keys, message, tag, list)
		}
		wantNoTape(t, keys, message, tag, list, 0, elementLogOf(table, keys))
	}
	wantNoneFitting := func(x proofs, message []int) {
		t.Helper()
		secret := x[0].secret
		tag := table.powers[9][secret]
		list := x.addingUpTo(0, linkMixed(x.keys(), message, tag, x.twins(table, secret))).twins(table, secret)
		wantNone(x.keys(), message, tag, list)
	}
	for i, bad := range notMessages() {
		wantNoneFitting(rings[i%len(rings)], bad)
	}
	for _, n := range []int{7, 8, 100} {
		wantNoneFitting(make(proofs, n), []int{5})
		wantNoneFitting(drawnProofs(draw, n), []int{5})
	}
	mixedZero := 0
	for _, tag := range allElements() { // what is mixed of some messages and tags alone is 0, as is the sum of no challenges
		for a := range 113 {
			mixedZero += oneIf(mixReckoned([]int{a, tag}) == 0)
			wantNone(nil, []int{a}, tag, nil)
			wantNone([]int{}, []int{a}, tag, []impl.Twin{})
		}
	}
	if mixedZero == 0 {
		t.Error("of no message 0 is mixed")
	}
}

// elementLogOf returns the secret of the first key, or 0 if there is none.
func elementLogOf(table elementTable, keys []int) int {
	if len(keys) == 0 {
		return 0
	}
	return table.logs[keys[0]]
}

// P99: of what are no keys, and of proofs that are too few, too many or not good.
func TestLinkGoodHoldsJustOfGoodProofs(t *testing.T) {
	draw := draws(994)
	for _, r := range someRingings(draw)[:400] {
		tag, list := linkSign(t, r)
		for _, bad := range notKeysOf(r.keys) {
			if impl.LinkGood(bad, r.message, tag, list) {
				t.Errorf("LinkGood(%v, %v, %d, %v) is true", bad, r.message, tag, list)
			}
		}
		for _, bad := range brokenTwinLists(draw, list) {
			if impl.LinkGood(r.keys, r.message, tag, bad) {
				t.Errorf("LinkGood(%v, %v, %d, %v) is true", r.keys, r.message, tag, bad)
			}
		}
	}
}

// P100: the tag of a secret that nobody has, and of each other power.
func TestLinkGoodOfATagThatNobodyHas(t *testing.T) {
	draw := draws(100)
	table := tableOfElements()
	base := impl.Pair{A: 4, B: 9}
	for n := 1; n <= 6; n++ {
		for i, secrets := range []proofs{drawnProofs(draw, n), make(proofs, n), drawnProofs(draw, n)} {
			tagged := draw(113)
			for slices.ContainsFunc(secrets, func(x proving) bool { return x.secret == tagged }) {
				tagged = draw(113)
			}
			keys, tag, message := secrets.keys(), table.powers[9][tagged], drawnList(draw, 4*i)
			list := feignedLink(draw, table, secrets, tagged, message)
			if !wantLinkGood(t, table, keys, message, tag, list) {
				t.Errorf("LinkGood(%v, %v, %d, %v) is false", keys, message, tag, list)
			}
			for j, p := range list {
				if fine := goodAnswers(t, table, base, impl.Pair{A: keys[j], B: tag}, p); len(fine) != 1 || fine[0] != p {
					t.Errorf("for the key %d and the tag %d, with the commitments of %v, %v are good", keys[j], tag, p, fine)
				}
				wantNoTape(t, keys, message, tag, list, j, secrets[j].secret)
				wantNoTape(t, keys, message, tag, list, j, tagged)
			}
		}
	}
}

// P101: with the index that signed, and with each other key of the same secret.
func TestLinkSignByLinkTapeIsTheSignature(t *testing.T) {
	table := tableOfElements()
	others := 0
	for _, r := range someRingings(draws(101)) {
		tag, list := linkSign(t, r)
		_, x := r.linked(table)
		for index, key := range r.keys {
			secret := table.logs[key]
			if secret != r.secret {
				wantNoTape(t, r.keys, r.message, tag, list, index, secret)
				wantNoTape(t, r.keys, r.message, tag, list, index, r.secret)
				continue
			}
			others += oneIf(index != r.index)
			tape := linkTape(t, r.keys, r.message, tag, list, index, secret)
			if want := x.tape(index); !slices.Equal(tape, want) {
				t.Errorf("LinkTape(%v, %v, %d, %v, %d) is %v, not %v", r.keys, r.message, tag, list, index, tape, want)
			}
			same, again := linkSign(t, ringing{eithering{r.keys, index, secret, 0, tape}, r.message})
			if same != tag || !slices.Equal(again, list) {
				t.Errorf("LinkSign(%v) is %d, %v, and with the index %d by LinkTape %d, %v", r, tag, list, index, same, again)
			}
		}
	}
	if others < 100 {
		t.Errorf("just %d other keys have the same secret", others)
	}
}

// P101: a signature that is feigned with the tag of a key is that of this key.
func TestLinkTapeOfAFeignedSignature(t *testing.T) {
	draw := draws(1010)
	table := tableOfElements()
	for _, secrets := range someProofs(draw) {
		index := draw(len(secrets))
		secret, keys, message := secrets[index].secret, secrets.keys(), drawnList(draw, draw(9))
		list, wantTag := feignedLink(draw, table, secrets, secret, message), table.powers[9][secret]
		tape := linkTape(t, keys, message, wantTag, list, index, secret)
		tag, again := linkSign(t, ringing{eithering{keys, index, secret, 0, tape}, message})
		if tag != wantTag || !slices.Equal(again, list) {
			t.Errorf("LinkTape(%v, %v, %d, %v, %d, %d) is %v, by which there is %d, %v", keys, message, wantTag, list, index, secret, tape, tag, again)
		}
	}
}

// P101: of what is not good, of no index, and of what is not the secret.
func TestLinkTapeIsToldJustOfGoodSignatures(t *testing.T) {
	draw := draws(1011)
	for i, r := range someRingings(draw)[:400] {
		tag, list := linkSign(t, r)
		wantNone := func(index, secret int) {
			t.Helper()
			wantNoTape(t, r.keys, r.message, tag, list, index, secret)
		}
		for more := 1; more < 113; more++ {
			wantNone(r.index, (r.secret+more)%113)
		}
		for _, bad := range append(extremes(), r.secret+113, r.secret-113) {
			wantNone(r.index, bad)
		}
		for _, bad := range notIndexes(len(r.keys)) {
			wantNone(bad, r.secret)
		}
		for _, bad := range notKeysOf(r.keys) {
			wantNoTape(t, bad, r.message, tag, list, r.index, r.secret)
		}
		for _, bad := range brokenTwinLists(draw, list) {
			wantNoTape(t, r.keys, r.message, tag, bad, r.index, r.secret)
		}
		for _, bad := range append(extremes(), 0, 2, tag+227, tag-227, 227-tag) {
			if bad != tag {
				wantNoTape(t, r.keys, r.message, bad, list, r.index, r.secret)
			}
		}
		wantNoTape(t, r.keys, notMessages()[i%len(notMessages())], tag, list, r.index, r.secret)
	}
}

// P97 to P101, with answers reckoned by hand.
func TestRingsReckonedByHand(t *testing.T) {
	for _, c := range []struct {
		r    ringing
		want []impl.Proof
	}{
		{ringing{eithering{[]int{4}, 0, 1, 0, []int{1, 55}}, []int{3}}, []impl.Proof{{Com: 4, Chal: 66, Resp: 67}}},                                         // of 3, 4 and 4 come 270, 15754 and 24700
		{ringing{eithering{[]int{9, 116}, 1, 5, 0, []int{1, 2, 3, 4}}, []int{5}}, []impl.Proof{{Com: 27, Chal: 1, Resp: 2}, {Com: 64, Chal: 92, Resp: 11}}}, // of 5, 9, 116, 27 and 64 come 272, 16905, 41948, 58245 and 35801, and so 93
	} {
		if list := ringSign(t, c.r); !slices.Equal(list, c.want) {
			t.Errorf("RingSign(%v) is %v, not %v", c.r, list, c.want)
		}
	}
	for _, c := range []struct {
		message []int
		chal    int
	}{
		{nil, 90},         // of 4, 9, 4 and 9 come 271, 16331, 13189 and 7209
		{[]int{2, 3}, 23}, // of 2, 3, 4, 9, 4 and 9 come 269, 15183, 32642, 26759, 8354 and 6351
	} {
		r := ringing{eithering{[]int{4}, 0, 1, 0, []int{1, 55}}, c.message}
		tag, twins := linkSign(t, r)
		if tag != 9 || !slices.Equal(twins, []impl.Twin{{ComA: 4, ComB: 9, Chal: c.chal, Resp: c.chal + 1}}) {
			t.Errorf("LinkSign(%v) is %d, %v", r, tag, twins)
		}
		if tape := linkTape(t, r.keys, r.message, tag, twins, 0, 1); !slices.Equal(tape, []int{1, 0}) {
			t.Errorf("LinkTape of %v is %v", r, tape)
		}
	}
}

// wantRingsKept fails the test if one of the functions does not keep the rules on memory. Each is called twice, so that both results are held against each other.
func wantRingsKept(t *testing.T, r ringing, list []impl.Proof, tag int, twins []impl.Twin) {
	t.Helper()
	args := [][]int{r.keys, r.message, r.tape}
	wantOwnMemoryOf(t, "RingSign", args, proofMark(), func() [][]impl.Proof {
		first, _ := r.ringSign()
		second, _ := r.ringSign()
		return [][]impl.Proof{first, second}
	})
	wantOwnMemoryOf(t, "LinkSign", args, impl.Twin{ComA: spare - 1, Chal: spare - 1}, func() [][]impl.Twin {
		_, first, _ := r.linkSign()
		_, second, _ := r.linkSign()
		return [][]impl.Twin{first, second}
	})
	tapes := func() [][]int {
		mixed := impl.Mix(r.message)
		good := []bool{impl.RingGood(r.keys, r.message, list), impl.LinkGood(r.keys, r.message, tag, twins)}
		first, _ := impl.LinkTape(r.keys, r.message, tag, twins, r.index, r.secret)
		second, _ := impl.LinkTape(r.keys, r.message, tag, twins, r.index, r.secret)
		return [][]int{first, second, {mixed, oneIf(good[0]), oneIf(good[1])}}
	}
	wantOwnMemory(t, "LinkTape", args, tapes)
	wantOwnMemoryOf(t, "RingGood", [][]impl.Proof{list}, spare-1, tapes)
	wantOwnMemoryOf(t, "LinkTape", [][]impl.Twin{twins}, spare-1, tapes)
}

// P96 to P101: the general rules on memory, also if several arguments are in the same memory.
func TestRingsOwnTheirMemory(t *testing.T) {
	draw := draws(960)
	for _, r := range append(someRingings(draw), notRingings(draw)[:200]...) {
		list, _ := r.ringSign()
		tag, twins, _ := r.linkSign()
		list, twins = withRoom(list, proofMark()), withRoom(twins, impl.Twin{ComA: spare})
		r.keys, r.message, r.tape = withSpare(r.keys), withSpare(r.message), withSpare(r.tape)
		wantRingsKept(t, r, list, tag, twins)
		r.message = r.tape[:len(r.tape)/2]
		wantRingsKept(t, r, list, tag, twins)
	}
	same := withSpare([]int{1, 1, 1, 1})
	r := ringing{eithering{same[:2], 0, 0, 0, same}, same[1:3]}
	list, _ := r.ringSign()
	tag, twins, ok := r.linkSign()
	if !ok {
		t.Errorf("LinkSign(%v) is %v", r, ok)
	}
	wantRingsKept(t, r, list, tag, twins)
}

// P96 to P101: what was told before does not count, nor what is told at the same time.
func TestRingsKeepNoState(t *testing.T) {
	table := tableOfElements()
	atTheSameTime(961, func(draw func(int) int) {
		list := someRingings(draw)
		for range 2 {
			for _, r := range list {
				impl.RingSign(nil, -1, 113, []int{5}, nil)
				impl.Mix([]int{226, -1})
				signed, ok := r.ringSign()
				tag, twins, fine := r.linkSign()
				wantTag, x := r.linked(table)
				if !ok || !fine || tag != wantTag || !slices.Equal(signed, r.signed(table).told(table)) || !slices.Equal(twins, x.twins(table, r.secret)) {
					t.Errorf("of %v there are %v, %d and %v", r, signed, tag, twins)
				}
			}
			slices.Reverse(list)
		}
	})
}
