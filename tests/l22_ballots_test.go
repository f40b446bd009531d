package tests

import (
	"fmt"
	"math"
	"slices"
	"testing"

	"loop.example/underveil/impl"
)

// balloting is the secret of a key, a vote and a blind, with a tape.
type balloting struct {
	secret, vote, blind int
	tape                []int
}

func (b balloting) key(table elementTable) int { return table.powers[4][b.secret] }

func (b balloting) make(table elementTable) (impl.Ballot, bool) {
	return impl.BallotMake(b.key(table), b.vote, b.blind, b.tape)
}

// overVote reckons the pair that seals a vote less. 57 times 4 is 228.
func overVote(p impl.Pair, vote int) impl.Pair {
	for range vote {
		p.B = p.B * 57 % 227
	}
	return p
}

// feigned reckons the twin proof for bases and keys that has a challenge and a response, by exponents for the base 4.
func (table elementTable) feigned(base, key impl.Pair, chal, resp int) impl.Twin {
	com := func(base, key int) int {
		return table.powers[4][(table.logs[base]*resp+113*113-chal*table.logs[key])%113]
	}
	return impl.Twin{ComA: com(base.A, key.A), ComB: com(base.B, key.B), Chal: chal, Resp: resp}
}

// ballotMixed reckons what the challenges of a ballot must add up to.
func ballotMixed(key int, b impl.Ballot) int {
	return mixReckoned([]int{key, b.Seal.A, b.Seal.B, b.Zero.ComA, b.Zero.ComB, b.One.ComA, b.One.ComB})
}

// ballot reckons the ballot.
func (b balloting) ballot(table elementTable) impl.Ballot {
	key := b.key(table)
	base, seal := impl.Pair{A: 4, B: key}, sealing{b.secret, b.vote, b.blind}.pair(table)
	drawn := proving{b.blind, b.tape[0], 0}.twin(table, base)
	feigned := table.feigned(base, overVote(seal, 1-b.vote), b.tape[1], b.tape[2])
	both := impl.Ballot{Seal: seal, Zero: drawn, One: feigned}
	if b.vote == 1 {
		both.Zero, both.One = feigned, drawn
	}
	chal := (ballotMixed(key, both) + 113 - b.tape[1]) % 113
	return b.answering(table, both, chal)
}

// answering reckons the ballot whose true proof answers another challenge, with the same commitments.
func (b balloting) answering(table elementTable, both impl.Ballot, chal int) impl.Ballot {
	proof := proving{b.blind, b.tape[0], chal}.twin(table, impl.Pair{A: 4, B: b.key(table)})
	if b.vote == 0 {
		both.Zero = proof
	} else {
		both.One = proof
	}
	return both
}

// proved reckons whether a pair is of elements, and both proofs are good for it.
func (table elementTable) proved(key int, b impl.Ballot) bool {
	base := impl.Pair{A: 4, B: key}
	return table.isElement(b.Seal.A) && table.isElement(b.Seal.B) && table.goodTwin(base, b.Seal, b.Zero) && table.goodTwin(base, overVote(b.Seal, 1), b.One)
}

// goodBallot reckons whether a ballot is good.
func (table elementTable) goodBallot(key int, b impl.Ballot) bool {
	return table.proved(key, b) && (b.Zero.Chal+b.One.Chal)%113 == ballotMixed(key, b)
}

// sumOfBallots reckons the sum of the pairs of all good ballots, and how many these are.
func (table elementTable) sumOfBallots(key int, list []impl.Ballot) (impl.Pair, int) {
	sum, many := impl.Pair{A: 1, B: 1}, 0
	for _, b := range list {
		if table.goodBallot(key, b) {
			sum, many = impl.Pair{A: sum.A * b.Seal.A % 227, B: sum.B * b.Seal.B % 227}, many+1
		}
	}
	return sum, many
}

// someBallotings returns both votes with blinds and for keys at the edges, the key 1 among them, by tapes of zeros, of the greatest numbers and drawn ones.
func someBallotings(draw func(int) int) []balloting {
	var list []balloting
	for vote := range 2 {
		for _, secret := range edgeNumbers(draw) {
			for _, blind := range edgeNumbers(draw) {
				for _, tape := range [][]int{make([]int, 3), {112, 112, 112}, {draw(113), 0, draw(113)}, drawnList(draw, 3)} {
					list = append(list, balloting{secret, vote, blind, tape})
				}
			}
		}
	}
	return list
}

// feignedBallot draws the challenges and responses of both proofs for a pair once, so that the ballot is good by chance only.
func feignedBallot(draw func(int) int, table elementTable, secret int, seal impl.Pair) impl.Ballot {
	base := impl.Pair{A: 4, B: table.powers[4][secret]}
	return impl.Ballot{Seal: seal, Zero: table.feigned(base, seal, draw(113), draw(113)), One: table.feigned(base, overVote(seal, 1), draw(113), draw(113))}
}

// feignedGood draws the challenges and responses of both proofs for a pair until the ballot is good.
func feignedGood(draw func(int) int, table elementTable, secret int, seal impl.Pair) impl.Ballot {
	for {
		if b := feignedBallot(draw, table, secret, seal); table.goodBallot(table.powers[4][secret], b) {
			return b
		}
	}
}

// brokenBallots returns ballots of which the pair is not of elements, or a proof has what is no element or no number.
func brokenBallots(b impl.Ballot) []impl.Ballot {
	var list []impl.Ballot
	for _, bad := range append(notPairs(), nearPairs(b.Seal)...) {
		list = append(list, impl.Ballot{Seal: bad, Zero: b.Zero, One: b.One})
	}
	for _, bad := range append(brokenTwins(b.Zero), impl.Twin{}) {
		list = append(list, impl.Ballot{Seal: b.Seal, Zero: bad, One: b.One})
	}
	for _, bad := range append(brokenTwins(b.One), impl.Twin{}) {
		list = append(list, impl.Ballot{Seal: b.Seal, Zero: b.Zero, One: bad})
	}
	return append(list, impl.Ballot{}, impl.Ballot{Seal: b.Seal}, impl.Ballot{Zero: b.Zero, One: b.One})
}

// changedBallots returns ballots of elements and numbers that differ from one in a part.
func changedBallots(draw func(int) int, b impl.Ballot) []impl.Ballot {
	g, a := allElements()[draw(113)], 1+draw(112)
	list := []impl.Ballot{
		{Seal: impl.Pair{A: g, B: b.Seal.B}, Zero: b.Zero, One: b.One}, {Seal: impl.Pair{A: b.Seal.A, B: g}, Zero: b.Zero, One: b.One},
		{Seal: overVote(b.Seal, 1), Zero: b.Zero, One: b.One}, {Seal: overVote(b.Seal, 112), Zero: b.Zero, One: b.One},
		{Seal: b.Seal, Zero: b.One, One: b.Zero}, {Seal: b.Seal, Zero: b.Zero, One: b.Zero}, {Seal: b.Seal, Zero: b.One, One: b.One}, {Seal: impl.Pair{A: b.Seal.B, B: b.Seal.A}, Zero: b.Zero, One: b.One},
	}
	for _, change := range []func(p *impl.Twin){
		func(p *impl.Twin) { p.ComA = g }, func(p *impl.Twin) { p.ComB = g }, func(p *impl.Twin) { p.Chal = (p.Chal + a) % 113 },
		func(p *impl.Twin) { p.Resp = (p.Resp + a) % 113 }, func(p *impl.Twin) { p.ComA, p.ComB = p.ComB, p.ComA },
	} {
		zero, one := b, b
		change(&zero.Zero)
		change(&one.One)
		list = append(list, zero, one)
	}
	return list
}

func ballotMake(t *testing.T, table elementTable, b balloting) impl.Ballot {
	t.Helper()
	made, ok := b.make(table)
	if !ok {
		t.Fatalf("BallotMake(%v) is %v, %v", b, made, ok)
	}
	return made
}

// wantBallotGood fails the test unless BallotGood is as reckoned; it returns it.
func wantBallotGood(t *testing.T, table elementTable, key int, b impl.Ballot) bool {
	t.Helper()
	got := impl.BallotGood(key, b)
	if got != table.goodBallot(key, b) {
		t.Errorf("BallotGood(%d, %v) is %v", key, b, got)
	}
	return got
}

// wantNoVote fails the test unless BallotVote tells nothing, in either order.
func wantNoVote(t *testing.T, key int, a, b impl.Ballot) {
	t.Helper()
	for range 2 {
		if vote, blind, ok := impl.BallotVote(key, a, b); ok || vote != 0 || blind != 0 {
			t.Errorf("BallotVote(%d, %v, %v) is %d, %d, %v", key, a, b, vote, blind, ok)
		}
		a, b = b, a
	}
}

// wantSum fails the test unless BallotSum is as reckoned; it returns it.
func wantSum(t *testing.T, table elementTable, key int, list []impl.Ballot) (impl.Pair, int) {
	t.Helper()
	sum, many, ok := impl.BallotSum(key, list)
	if want, as := table.sumOfBallots(key, list); !ok || sum != want || many != as {
		t.Errorf("BallotSum(%d, %v) is %v, %d, %v, not %v, %d", key, list, sum, many, ok, want, as)
	}
	return sum, many
}

func ballotTally(t *testing.T, secret int, list []impl.Ballot) int {
	t.Helper()
	tally, ok := impl.BallotTally(secret, list)
	return wantNumber(t, fmt.Sprintf("BallotTally(%d, %v)", secret, list), tally, ok)
}

// P134: for some keys and blinds, and with each number as one of the secret, the blind and the tape.
func TestBallotGoodHoldsOfBallotMake(t *testing.T) {
	draw := draws(134)
	table := tableOfElements()
	list := someBallotings(draw)
	for _, a := range allNumbers() {
		for vote := range 2 {
			list = append(list, balloting{a, vote, draw(113), drawnList(draw, 3)}, balloting{draw(113), vote, a, drawnList(draw, 3)})
			for i := range 3 {
				tape := drawnList(draw, 3)
				tape[i] = a
				list = append(list, balloting{draw(113), vote, draw(113), tape})
			}
		}
	}
	for _, b := range list {
		made, key := ballotMake(t, table, b), b.key(table)
		if want := b.ballot(table); made != want {
			t.Errorf("BallotMake(%v) is %v, not %v", b, made, want)
		}
		if !wantBallotGood(t, table, key, made) {
			t.Errorf("BallotGood(%d, %v) is false", key, made)
		}
		if got := sealOpen(t, elementLog(t, key), made.Seal); got != b.vote || made.Seal != sealMake(t, key, b.vote, b.blind) {
			t.Errorf("BallotMake(%v) is %v, which seals %d", b, made, got)
		}
	}
}

// P134: of keys that are no elements, of what is no vote, and of blinds and tapes that are not of numbers, or not of three.
func TestBallotMakeIsToldJustOfVotes(t *testing.T) {
	wantNone := func(key, vote, blind int, tape []int) {
		t.Helper()
		if b, ok := impl.BallotMake(key, vote, blind, tape); ok || b != (impl.Ballot{}) {
			t.Errorf("BallotMake(%d, %d, %d, %v) is %v, %v", key, vote, blind, tape, b, ok)
		}
	}
	for vote := range 2 {
		for _, tape := range [][]int{{0, 0, 0}, {1, 2, 3}, {112, 112, 112}} {
			for _, bad := range notElements() {
				wantNone(bad, vote, 0, tape)
				wantNone(bad, vote, 112, tape)
			}
			for _, bad := range notNumbers() {
				wantNone(1, vote, bad, tape)
				wantNone(116, vote, bad, tape)
			}
		}
		for _, bad := range append(notLists(3), []int{1}, []int{1, 2}, []int{1, 2, 3, 4}, []int{1, 2, 3, 113}, []int{1, 2, -1}) {
			wantNone(1, vote, 0, bad)
			wantNone(116, vote, 112, bad)
		}
	}
	for _, bad := range append(notNumbers(), allNumbers()[2:]...) {
		wantNone(1, bad, 0, []int{0, 0, 0})
		wantNone(116, bad, 7, []int{1, 2, 3})
		wantNone(0, bad, -1, nil)
	}
}

// P134: each part of a ballot counts, and what is changed is good by chance only.
func TestBallotGoodOfABallotThatIsChanged(t *testing.T) {
	draw := draws(1340)
	table := tableOfElements()
	some, all := 0, 0
	for _, b := range someBallotings(draw) {
		made, key := ballotMake(t, table, b), b.key(table)
		for _, other := range changedBallots(draw, made) {
			got := wantBallotGood(t, table, key, other)
			if other != made {
				some, all = some+oneIf(got), all+1
			}
		}
		for _, g := range edgeElements(draw) {
			wantBallotGood(t, table, g, made)
		}
	}
	if some > all/20 {
		t.Errorf("of %d ballots that are changed %d are good", all, some)
	}
}

// P134: both proofs are good whatever challenge the true one answers, but just what is mixed makes the ballot good.
func TestBallotGoodHoldsOfTheChallengeThatIsMixed(t *testing.T) {
	table := tableOfElements()
	for _, b := range someBallotings(draws(1341)) {
		made, key := ballotMake(t, table, b), b.key(table)
		good := 0
		for _, chal := range allNumbers() {
			other := b.answering(table, made, chal)
			if !table.proved(key, other) {
				t.Fatalf("the proofs of %v are not good", other)
			}
			got := impl.BallotGood(key, other)
			good += oneIf(got)
			if got != (other == made) {
				t.Errorf("BallotGood(%d, %v) is %v, and of %v", key, other, got, made)
			}
		}
		if good != 1 {
			t.Errorf("BallotGood holds for %d challenges of %v", good, made)
		}
	}
}

// P134: of keys that are no elements, and of ballots that are not of elements and numbers.
func TestBallotGoodHoldsJustOfElementsAndNumbers(t *testing.T) {
	draw := draws(1342)
	table := tableOfElements()
	wantNone := func(key int, b impl.Ballot) {
		t.Helper()
		if impl.BallotGood(key, b) {
			t.Errorf("BallotGood(%d, %v) is true", key, b)
		}
	}
	for i, b := range someBallotings(draw) {
		if i%4 == 1 || i%4 == 2 {
			continue
		}
		made, key := ballotMake(t, table, b), b.key(table)
		for _, bad := range append(notElements(), key+227, key-227, -key) {
			wantNone(bad, made)
		}
		for _, bad := range brokenBallots(made) {
			wantNone(key, bad)
		}
	}
	for _, key := range append(notElements(), allElements()...) {
		wantNone(key, impl.Ballot{})
	}
}

// P135: of ballots that seal 2, or another number, and are good by chance, all challenges and responses: there is just one of each proof.
func TestBallotGoodOfWhatIsNoVoteHoldsForNoOtherChallenges(t *testing.T) {
	draw := draws(135)
	table := tableOfElements()
	for i, m := range []int{2, 2, 2, 3, 57, 111, 112, 112, 2 + draw(111), 2 + draw(111)} {
		secret := edgeNumbers(draw)[i%6]
		key, seal := table.powers[4][secret], sealing{secret, m, []int{0, draw(113), 112}[i%3]}.pair(table)
		b := feignedGood(draw, table, secret, seal)
		if !impl.BallotGood(key, b) || sealOpen(t, secret, b.Seal) != m {
			t.Errorf("BallotGood(%d, %v) is false", key, b)
		}
		base := impl.Pair{A: 4, B: key}
		zeros, ones := goodAnswers(t, table, base, seal, b.Zero), goodAnswers(t, table, base, overVote(seal, 1), b.One)
		if !slices.Equal(zeros, []impl.Twin{b.Zero}) || !slices.Equal(ones, []impl.Twin{b.One}) {
			t.Errorf("with the commitments of %v, %v and %v are good", b, zeros, ones)
		}
		for _, chal := range allNumbers() {
			other := b
			other.Zero.Chal, other.One.Chal = chal, (b.Zero.Chal+b.One.Chal+113-chal)%113 // the same sum
			for _, resp := range allNumbers() {
				other.Zero.Resp, other.One.Resp = resp, b.One.Resp
				wantBallotGood(t, table, key, other)
				other.Zero.Resp, other.One.Resp = b.Zero.Resp, resp
				wantBallotGood(t, table, key, other)
				other.Zero.Resp, other.One.Resp = resp, draw(113)
				if got := wantBallotGood(t, table, key, other); got != (other == b) {
					t.Errorf("BallotGood(%d, %v) is %v, and of %v", key, other, got, b)
				}
			}
		}
	}
}

// P135: a ballot that seals 2 is good for few challenges and responses that are drawn, about one of 113; one whose true proof is that of a vote is good for none.
func TestBallotsThatSealTwoAreGoodByChanceOnly(t *testing.T) {
	draw := draws(1350)
	table := tableOfElements()
	for _, secret := range edgeNumbers(draw) {
		key, good := table.powers[4][secret], 0
		for range 3000 {
			b := feignedBallot(draw, table, secret, sealing{secret, 2, draw(113)}.pair(table))
			good += oneIf(wantBallotGood(t, table, key, b))
		}
		if good == 0 || good > 60 {
			t.Errorf("of 3000 ballots that seal 2, %d are good for the key %d", good, key)
		}
		for range 200 {
			x := balloting{secret, draw(2), draw(113), drawnList(draw, 3)}
			b := x.ballot(table)
			b.Seal.B = b.Seal.B * 16 % 227
			b = x.answering(table, b, (ballotMixed(key, b)+113-x.tape[1])%113)
			wantBallotGood(t, table, key, b)
			wantNoVote(t, key, b, x.answering(table, b, draw(113)))
		}
	}
}

// P136: of each two challenges that the true proof answers, neither of which need be mixed.
func TestSealMakeOfBallotVoteIsTheSealedVote(t *testing.T) {
	draw := draws(136)
	table := tableOfElements()
	wantVote := func(x balloting, a, b impl.Ballot) {
		t.Helper()
		key := x.key(table)
		vote, blind, ok := impl.BallotVote(key, a, b)
		if !ok || vote != x.vote || blind != x.blind || sealMake(t, key, vote, blind) != a.Seal {
			t.Errorf("BallotVote(%d, %v, %v) is %d, %d, %v, not %d, %d", key, a, b, vote, blind, ok, x.vote, x.blind)
		}
	}
	for _, x := range someBallotings(draw) {
		made := ballotMake(t, table, x)
		for _, chal := range allNumbers() {
			other := x.answering(table, made, chal)
			if other == made {
				wantNoVote(t, x.key(table), made, other)
				continue
			}
			wantVote(x, made, other)
			wantVote(x, other, made)
		}
	}
	for _, x := range someBallotings(draw)[7:9] {
		made := ballotMake(t, table, x)
		for _, first := range allNumbers() {
			for _, second := range allNumbers() {
				a, b := x.answering(table, made, first), x.answering(table, made, second)
				if first == second {
					wantNoVote(t, x.key(table), a, b)
				} else {
					wantVote(x, a, b)
				}
			}
		}
	}
}

// P136: of ballots that differ in the challenge of the feigned proof, or of both, of other pairs and other commitments, and of what is changed in one of both or in both.
func TestBallotVoteIsToldJustOfGoodProofs(t *testing.T) {
	draw := draws(1360)
	table := tableOfElements()
	for i, x := range someBallotings(draw) {
		made, key := ballotMake(t, table, x), x.key(table)
		other := x.answering(table, made, draw(113))
		for range 20 {
			wrong := other // the feigned proof answers no other challenge, whatever the response is
			if x.vote == 0 {
				wrong.One.Chal, wrong.One.Resp = (wrong.One.Chal+1+draw(112))%113, draw(113)
			} else {
				wrong.Zero.Chal, wrong.Zero.Resp = (wrong.Zero.Chal+1+draw(112))%113, draw(113)
			}
			wantNoVote(t, key, made, wrong)
			wantNoVote(t, key, wrong, wrong)
			y := balloting{x.secret, x.vote, x.blind, []int{(x.tape[0] + 1 + draw(112)) % 113, x.tape[1], x.tape[2]}}
			wantNoVote(t, key, made, y.answering(table, ballotMake(t, table, y), draw(113))) // another nonce
			y = balloting{x.secret, x.vote, (x.blind + 1 + draw(112)) % 113, x.tape}
			wantNoVote(t, key, made, y.answering(table, ballotMake(t, table, y), draw(113))) // another blind, and so another pair
			y = balloting{x.secret, x.vote, x.blind, []int{x.tape[0], x.tape[1], (x.tape[2] + 1 + draw(112)) % 113}}
			wantNoVote(t, key, made, y.answering(table, ballotMake(t, table, y), draw(113))) // other commitments of the feigned proof
			y = balloting{x.secret, 1 - x.vote, x.blind, x.tape}
			wantNoVote(t, key, made, ballotMake(t, table, y))
			wantNoVote(t, key, x.answering(table, made, draw(113)), ballotMake(t, table, y))
		}
		for _, wrong := range changedBallots(draw, other) {
			if wrong != other && !table.proved(key, wrong) {
				wantNoVote(t, key, made, wrong)
				wantNoVote(t, key, other, wrong)
				wantNoVote(t, key, wrong, wrong)
			}
		}
		if i%6 == 0 {
			for _, bad := range brokenBallots(other) {
				wantNoVote(t, key, made, bad)
				wantNoVote(t, key, bad, bad)
			}
		}
	}
}

// P136: the pair, the keys and the challenges are no others but for multiples of 227 and 113, and the key is an element.
func TestBallotVoteIsToldJustOfElements(t *testing.T) {
	draw := draws(1361)
	table := tableOfElements()
	for _, x := range someBallotings(draw) {
		made, key := ballotMake(t, table, x), x.key(table)
		other := x.answering(table, made, (made.Zero.Chal+made.One.Chal+5)%113)
		for _, bad := range append(extremes(), 0, 2, 3, 226, 227, 228, key+227, key-227, -key, 227-key) {
			if !table.isElement(bad) {
				wantNoVote(t, bad, made, other)
			}
		}
		for _, bad := range nearPairs(made.Seal) {
			a, b := made, other
			a.Seal, b.Seal = bad, bad
			wantNoVote(t, key, a, b)
		}
	}
	wantNoVote(t, 1, impl.Ballot{}, impl.Ballot{})
	wantNoVote(t, 0, impl.Ballot{}, impl.Ballot{})
	wantNoVote(t, math.MinInt, impl.Ballot{}, impl.Ballot{})
}

// P136: another key, for which both proofs are good, tells the vote for it; for all others there is nothing.
func TestBallotVoteOfAnotherKey(t *testing.T) {
	draw := draws(1362)
	table := tableOfElements()
	for _, x := range someBallotings(draw) {
		made := ballotMake(t, table, x)
		other := x.answering(table, made, draw(113))
		for _, g := range allElements() {
			if !table.proved(g, made) || !table.proved(g, other) {
				wantNoVote(t, g, made, other)
			} else if vote, blind, ok := impl.BallotVote(g, made, other); ok != (made != other) || ok && sealMake(t, g, vote, blind) != made.Seal {
				t.Errorf("BallotVote(%d, %v, %v) is %d, %d, %v", g, made, other, vote, blind, ok)
			}
		}
	}
}

// ballotLists returns lists of good ballots, of ballots of which none is good, of both kinds and of none at all, for a key.
func ballotLists(t *testing.T, draw func(int) int, table elementTable, secret int) [][]impl.Ballot {
	t.Helper()
	var good, bad, both []impl.Ballot
	for i := range 9 {
		x := balloting{secret, i % 2, draw(113), drawnList(draw, 3)}
		b := ballotMake(t, table, x)
		y := balloting{(secret + 1 + draw(112)) % 113, draw(2), 1 + draw(112), drawnList(draw, 3)} // for another key
		wrong := []impl.Ballot{changedBallots(draw, b)[draw(18)], brokenBallots(b)[draw(500)], ballotMake(t, table, y), {}, feignedBallot(draw, table, secret, sealing{secret, 2, draw(113)}.pair(table))}[draw(5)]
		good, both = append(good, b), append(both, b, wrong, b)
		if !table.goodBallot(table.powers[4][secret], wrong) {
			bad = append(bad, wrong)
		}
	}
	by := feignedGood(draw, table, secret, sealing{secret, 2 + draw(111), draw(113)}.pair(table)) // good by chance, so it counts
	return [][]impl.Ballot{nil, {}, good, good[:1], bad, both, append(slices.Clone(both), by), {by}, {by, by, good[1]}, slices.Repeat(good[1:2], 120)}
}

// P137: the sum begins with the pair 1 and 1, and has good ballots in each order, the same one as often as it is there.
func TestBallotSumOfTheGoodOnesAloneIsTheSame(t *testing.T) {
	draw := draws(137)
	table := tableOfElements()
	for _, secret := range slices.Concat(edgeNumbers(draw), edgeNumbers(draw), drawnList(draw, 20)) {
		key := elementPow(t, 4, secret)
		for _, list := range ballotLists(t, draw, table, secret) {
			sum, many := wantSum(t, table, key, list)
			alone := slices.DeleteFunc(slices.Clone(list), func(b impl.Ballot) bool { return !impl.BallotGood(key, b) })
			if same, as := wantSum(t, table, key, alone); same != sum || as != many || many != len(alone) {
				t.Errorf("BallotSum(%d, %v) is %v, %d, and of the good ones alone %v, %d", key, list, sum, many, same, as)
			}
			if same, as := wantSum(t, table, key, reversed(list)); same != sum || as != many {
				t.Errorf("BallotSum(%d, %v) is %v, %d, and in the opposite order %v, %d", key, list, sum, many, same, as)
			}
			added := impl.Pair{A: 1, B: 1}
			for _, b := range alone {
				added = sealAdd(t, added, b.Seal)
			}
			if added != sum {
				t.Errorf("BallotSum(%d, %v) is %v, and SealAdd of all %v", key, list, sum, added)
			}
			wantSum(t, table, allElements()[draw(113)], list)
		}
		for _, none := range [][]impl.Ballot{nil, {}, {{}}} {
			if sum, many := wantSum(t, table, key, none); sum != (impl.Pair{A: 1, B: 1}) || many != 0 {
				t.Errorf("BallotSum(%d, %v) is %v, %d", key, none, sum, many)
			}
		}
	}
}

// P137: of keys that are no elements.
func TestBallotSumIsToldJustOfElements(t *testing.T) {
	draw := draws(1370)
	table := tableOfElements()
	for _, list := range ballotLists(t, draw, table, 5) {
		for _, bad := range append(notElements(), 116+227, 116-227) {
			if sum, many, ok := impl.BallotSum(bad, list); ok || many != 0 || sum != (impl.Pair{}) {
				t.Errorf("BallotSum(%d, %v) is %v, %d, %v", bad, list, sum, many, ok)
			}
		}
	}
}

// P138: also with a ballot that seals no vote and is good by chance, and with more votes than there are numbers.
func TestBallotTallyIsTheSumOfAllGoodBallots(t *testing.T) {
	draw := draws(138)
	table := tableOfElements()
	for _, secret := range slices.Concat(edgeNumbers(draw), edgeNumbers(draw), drawnList(draw, 20)) {
		key := elementPow(t, 4, secret)
		for _, list := range ballotLists(t, draw, table, secret) {
			want := 0
			for _, b := range list {
				if impl.BallotGood(key, b) {
					want = add(t, want, sealOpen(t, secret, b.Seal))
				}
			}
			if got := ballotTally(t, secret, list); got != want {
				t.Errorf("BallotTally(%d, %v) is %d, not %d", secret, list, got, want)
			}
		}
	}
}

// P138: of votes that are known, each number of them, of which those for 1 are counted.
func TestBallotTallyOfVotes(t *testing.T) {
	draw := draws(1380)
	table := tableOfElements()
	for _, secret := range edgeNumbers(draw) {
		var list []impl.Ballot
		ones := 0
		for range 250 {
			if got := ballotTally(t, secret, list); got != ones%113 {
				t.Errorf("BallotTally(%d) of %d ballots, %d of them for 1, is %d", secret, len(list), ones, got)
			}
			vote := min(draw(10), 1)
			ones += vote
			list = append(list, ballotMake(t, table, balloting{secret, vote, draw(113), drawnList(draw, 3)}))
		}
		if ones < 200 {
			t.Errorf("there are %d votes for 1", ones)
		}
	}
}

// P138: of what is no secret.
func TestBallotTallyIsToldJustOfNumbers(t *testing.T) {
	draw := draws(1381)
	table := tableOfElements()
	for _, list := range ballotLists(t, draw, table, 5) {
		for _, bad := range append(notNumbers(), 5+113, 5-113) {
			tally, ok := impl.BallotTally(bad, list)
			wantNothing(t, fmt.Sprintf("BallotTally(%d, %v)", bad, list), tally, ok)
		}
	}
}

// P134 to P138, with answers reckoned by hand.
func TestBallotsReckonedByHand(t *testing.T) {
	table := tableOfElements()
	for _, c := range []struct {
		b    balloting
		want impl.Ballot
	}{
		{balloting{5, 1, 7, []int{1, 2, 3}}, impl.Ballot{Seal: impl.Pair{A: 40, B: 65}, Zero: impl.Twin{ComA: 109, ComB: 113, Chal: 2, Resp: 3}, One: impl.Twin{ComA: 4, ComB: 116, Chal: 110, Resp: 93}}}, // of 116, 40, 65, 109, 113, 4 and 116 come 383, 27561, 26452, 43415, 55177, 9489 and 47459, and so 112
		{balloting{0, 0, 0, []int{0, 0, 0}}, impl.Ballot{Seal: impl.Pair{A: 1, B: 1}, Zero: impl.Twin{ComA: 1, ComB: 1, Chal: 30}, One: impl.Twin{ComA: 1, ComB: 1}}},                                      // of seven times 1 comes 17206 at last
		{balloting{0, 1, 0, []int{0, 0, 0}}, impl.Ballot{Seal: impl.Pair{A: 1, B: 4}, Zero: impl.Twin{ComA: 1, ComB: 1}, One: impl.Twin{ComA: 1, ComB: 1, Chal: 29}}},                                      // 9521
		{balloting{1, 0, 1, []int{1, 1, 1}}, impl.Ballot{Seal: impl.Pair{A: 4, B: 4}, Zero: impl.Twin{ComA: 4, ComB: 4, Chal: 24, Resp: 25}, One: impl.Twin{ComA: 1, ComB: 4, Chal: 1, Resp: 1}}},          // 49971, and so 25
	} {
		if made := ballotMake(t, table, c.b); made != c.want || !impl.BallotGood(c.b.key(table), c.want) {
			t.Errorf("BallotMake(%v) is %v, not %v", c.b, made, c.want)
		}
	}
	a := impl.Ballot{Seal: impl.Pair{A: 40, B: 65}, Zero: impl.Twin{ComA: 109, ComB: 113, Chal: 2, Resp: 3}, One: impl.Twin{ComA: 4, ComB: 116, Chal: 110, Resp: 93}}
	b := a
	b.One.Chal, b.One.Resp = 0, 1
	if vote, blind, ok := impl.BallotVote(116, a, b); !ok || vote != 1 || blind != 7 { // 92 is 110 times 7 less six times 113
		t.Errorf("BallotVote(116, %v, %v) is %d, %d, %v", a, b, vote, blind, ok)
	}
	if sum, many, ok := impl.BallotSum(116, []impl.Ballot{a, b, a}); !ok || many != 2 || sum != (impl.Pair{A: 11, B: 139}) { // 1600 and 4225
		t.Errorf("BallotSum is %v, %d, %v", sum, many, ok)
	}
	if tally := ballotTally(t, 5, []impl.Ballot{a, b, a}); tally != 2 {
		t.Errorf("BallotTally is %d", tally)
	}
}

// P134 to P138: the general rules on memory: tapes and lists of ballots are not changed, nor what is behind them.
func TestBallotsKeepTheirArguments(t *testing.T) {
	draw := draws(1382)
	table := tableOfElements()
	for _, x := range append(someBallotings(draw), balloting{5, 1, 7, []int{1, 2}}, balloting{5, 0, 7, []int{1, 2, 3, 4}}, balloting{5, 2, 7, []int{1, 2, 3}}) {
		tape := withSpare(x.tape)
		wantOwnMemory(t, "BallotMake", [][]int{tape}, func() [][]int {
			b, ok := impl.BallotMake(x.key(table), x.vote, x.blind, tape)
			return [][]int{{b.Zero.Chal, b.One.Chal, b.Zero.Resp, b.One.Resp, oneIf(ok)}}
		})
	}
	for _, secret := range edgeNumbers(draw) {
		for _, list := range ballotLists(t, draw, table, secret) {
			list = withRoom(list, ballotMake(t, table, balloting{secret, 1, draw(113), drawnList(draw, 3)}))
			wantOwnMemoryOf(t, "BallotSum and BallotTally", [][]impl.Ballot{list}, spare-1, func() [][]int {
				sum, many, _ := impl.BallotSum(table.powers[4][secret], list)
				tally, _ := impl.BallotTally(secret, list)
				return [][]int{{sum.A, sum.B, many, tally}}
			})
		}
	}
}

// P134 to P138: what was told before does not count, nor what is told at the same time.
func TestBallotsKeepNoState(t *testing.T) {
	table := tableOfElements()
	atTheSameTime(1383, func(draw func(int) int) {
		list := someBallotings(draw)
		for range 2 {
			for _, x := range list {
				impl.BallotMake(0, 2, -1, nil)
				impl.BallotSum(0, []impl.Ballot{{}})
				made, ok := x.make(table)
				other := x.answering(table, made, (made.Zero.Chal+made.One.Chal+7)%113)
				vote, blind, _ := impl.BallotVote(x.key(table), made, other)
				tally, fine := impl.BallotTally(x.secret, []impl.Ballot{made, {}, made})
				if !ok || !fine || made != x.ballot(table) || tally != 2*x.vote || made != other && (vote != x.vote || blind != x.blind) {
					t.Errorf("of %v there are %v, %d, %d and %d", x, made, vote, blind, tally)
				}
			}
			slices.Reverse(list)
		}
	})
}
