package tests

import (
	"slices"
	"testing"

	"loop.example/underveil/impl"
)

// powersReckoned reckons the powers 0 to 112 of an element, by repeated products.
func powersReckoned(g int) []int {
	list := make([]int, 113)
	power := 1
	for e := range list {
		list[e] = power
		power = power * g % 227
	}
	return list
}

// committed returns a function that reckons commitments.
func committed() func(a, blind int) int {
	powersOfG, powersOfH := powersReckoned(4), powersReckoned(9)
	return func(a, blind int) int { return powersOfG[a] * powersOfH[blind] % 227 }
}

// someBlinds returns the least and the greatest blinds, and drawn ones.
func someBlinds(draw func(int) int) []int {
	return []int{0, 1, 2, 56, 57, 111, 112, draw(113), draw(113), draw(113)}
}

// publishedReckoned reckons what is published of a secret and a tape.
func publishedReckoned(secret int, tape []int) []int {
	powersOfG := powersReckoned(4)
	list := []int{powersOfG[secret]}
	for _, a := range tape {
		list = append(list, powersOfG[a])
	}
	return list
}

func commit(t *testing.T, a, blind int) int {
	t.Helper()
	c, ok := impl.Commit(a, blind)
	return wantElement(t, "Commit", c, ok)
}

func commitTurn(t *testing.T, a, blind, other int) int {
	t.Helper()
	turned, ok := impl.CommitTurn(a, blind, other)
	return wantNumber(t, "CommitTurn", turned, ok)
}

func publish(t *testing.T, secret int, tape []int) []int {
	t.Helper()
	published, ok := impl.Publish(secret, tape)
	if !ok || len(published) != len(tape)+1 {
		t.Fatalf("Publish(%d, %v) is %v, %v", secret, tape, published, ok)
	}
	for _, g := range published {
		wantElement(t, "one that Publish tells", g, ok)
	}
	return published
}

// P34
func TestCommitOpenHoldsOfCommit(t *testing.T) {
	reckoned := committed()
	for _, a := range allNumbers() {
		for _, blind := range allNumbers() {
			c := commit(t, a, blind)
			if want := reckoned(a, blind); c != want {
				t.Errorf("Commit(%d, %d) is %d, not %d", a, blind, c, want)
			}
			if !impl.CommitOpen(c, a, blind) {
				t.Errorf("CommitOpen(%d, %d, %d) is false", c, a, blind)
			}
		}
	}
	for _, c := range []struct{ a, blind, want int }{
		{0, 0, 1}, {1, 0, 4}, {0, 1, 9}, {1, 1, 36}, {112, 0, 57}, {0, 112, 101}, {112, 112, 82}, {2, 2, 161}, // 16*81 is 1296
	} {
		if got := commit(t, c.a, c.blind); got != c.want {
			t.Errorf("Commit(%d, %d) is %d, not %d", c.a, c.blind, got, c.want)
		}
	}
}

// P34: of what is no number.
func TestCommitIsToldJustOfNumbers(t *testing.T) {
	wantNone := func(a, blind int) {
		t.Helper()
		c, ok := impl.Commit(a, blind)
		wantNothing(t, "Commit", c, ok)
		for _, c := range []int{0, 1, 4, 9, 57, 101} {
			if impl.CommitOpen(c, a, blind) {
				t.Errorf("CommitOpen(%d, %d, %d) is true", c, a, blind)
			}
		}
	}
	for _, bad := range notNumbers() {
		for _, a := range []int{0, 1, 56, 112} {
			wantNone(a, bad)
			wantNone(bad, a)
		}
		wantNone(bad, bad)
	}
	reckoned := committed()
	for _, a := range allNumbers() {
		for _, blind := range []int{0, 1, 112, a} { // numbers but for multiples of 113 open no commitment
			c := reckoned(a, blind)
			for _, bad := range []int{-226, -113, 113, 226, 1130} {
				if impl.CommitOpen(c, a+bad, blind) || impl.CommitOpen(c, a, blind+bad) || impl.CommitOpen(c, a+bad, blind-bad) {
					t.Errorf("CommitOpen holds of %d for %d and %d but for %d", c, a, blind, bad)
				}
			}
		}
	}
}

// P35
func TestCommitOpenHoldsOfNoOtherNumber(t *testing.T) {
	for _, blind := range someBlinds(draws(35)) {
		for _, a := range allNumbers() {
			c := commit(t, a, blind)
			for _, other := range allNumbers() {
				if got := impl.CommitOpen(c, other, blind); got != (a == other) {
					t.Errorf("CommitOpen(%d, %d, %d) is %v, and it is the commitment to %d", c, other, blind, got, a)
				}
				if got := impl.CommitOpen(c, a, other); got != (blind == other) {
					t.Errorf("CommitOpen(%d, %d, %d) is %v, and the blind is %d", c, a, other, got, blind)
				}
			}
		}
	}
}

// P35: of each whole number just one is the commitment; and of what is no element.
func TestCommitOpenHoldsOfNoOtherCommitment(t *testing.T) {
	reckoned := committed()
	for _, o := range [][2]int{{0, 0}, {0, 1}, {1, 0}, {5, 6}, {112, 112}, {112, 0}, {0, 112}} {
		want := reckoned(o[0], o[1])
		for c := -500; c <= 1000; c++ {
			if got := impl.CommitOpen(c, o[0], o[1]); got != (c == want) {
				t.Errorf("CommitOpen(%d, %d, %d) is %v", c, o[0], o[1], got)
			}
		}
		for _, bad := range append(extremes(), notElements()...) {
			if impl.CommitOpen(bad, o[0], o[1]) {
				t.Errorf("CommitOpen(%d, %d, %d) is true", bad, o[0], o[1])
			}
		}
	}
}

// P36
func TestElementPowOfBaseGWithTrapdoorIsBaseH(t *testing.T) {
	trapdoor := impl.Trapdoor()
	if got := elementPow(t, 4, wantNumber(t, "Trapdoor", trapdoor, true)); got != 9 {
		t.Errorf("ElementPow of BaseG with Trapdoor %d is %d", trapdoor, got)
	}
	if want := slices.Index(powersReckoned(4), 9); trapdoor != want {
		t.Errorf("Trapdoor is %d, not %d", trapdoor, want)
	}
	if again := impl.Trapdoor(); again != trapdoor {
		t.Errorf("Trapdoor is %d, and %d before", again, trapdoor)
	}
}

// P37
func TestCommitOfTheOtherNumberWithCommitTurn(t *testing.T) {
	for _, blind := range someBlinds(draws(37)) {
		for _, a := range allNumbers() {
			c := commit(t, a, blind)
			seen := [113]bool{}
			for _, other := range allNumbers() {
				turned := commitTurn(t, a, blind, other)
				if got := commit(t, other, turned); got != c || !impl.CommitOpen(c, other, turned) {
					t.Errorf("Commit(%d, %d) is %d, not Commit(%d, %d), %d", other, turned, got, a, blind, c)
				}
				if back := commitTurn(t, other, turned, a); back != blind {
					t.Errorf("CommitTurn(%d, %d, %d) is %d, and back it is %d", a, blind, other, turned, back)
				}
				if seen[turned] {
					t.Errorf("CommitTurn(%d, %d) to two numbers is %d", a, blind, turned)
				}
				seen[turned] = true
			}
			if same := commitTurn(t, a, blind, a); same != blind {
				t.Errorf("CommitTurn(%d, %d) to the number itself is %d", a, blind, same)
			}
		}
	}
}

// P37: each commitment is to each number with just one blind, so that it tells nothing of the number.
func TestEachCommitmentIsToEachNumber(t *testing.T) {
	for _, a := range allNumbers() {
		blinds := map[int]int{}
		for _, blind := range allNumbers() {
			blinds[commit(t, a, blind)] = blind
		}
		for _, c := range allElements() {
			blind, ok := blinds[c]
			if !ok {
				t.Fatalf("no blind makes %d the commitment to %d", c, a)
			}
			if turned := commitTurn(t, elementLog(t, c), 0, a); turned != blind {
				t.Errorf("CommitTurn to %d is %d, but with %d it is the commitment %d", a, turned, blind, c)
			}
		}
	}
}

// P37: of what is no number.
func TestCommitTurnIsToldJustOfNumbers(t *testing.T) {
	wantNone := func(a, blind, other int) {
		t.Helper()
		turned, ok := impl.CommitTurn(a, blind, other)
		wantNothing(t, "CommitTurn", turned, ok)
	}
	for _, bad := range notNumbers() {
		for _, a := range []int{0, 1, 112} {
			wantNone(bad, a, a)
			wantNone(a, bad, a)
			wantNone(a, a, bad)
			wantNone(bad, a, bad)
			wantNone(bad, bad, a)
		}
		wantNone(bad, bad, bad)
	}
}

// P38
func TestCommitBreakIsTrapdoor(t *testing.T) {
	trapdoor := slices.Index(powersReckoned(4), 9)
	for _, blind := range someBlinds(draws(38)) {
		for _, a := range allNumbers() {
			for _, other := range allNumbers() {
				turned := commitTurn(t, a, blind, other)
				got, ok := impl.CommitBreak(a, blind, other, turned)
				if a == other {
					wantNothing(t, "CommitBreak of one number", got, ok)
				} else if !ok || got != trapdoor {
					t.Errorf("CommitBreak(%d, %d, %d, %d) is %d, %v", a, blind, other, turned, got, ok)
				}
			}
		}
	}
}

// P38: held against all second openings.
func TestCommitBreakIsToldJustOfOneCommitment(t *testing.T) {
	reckoned := committed()
	trapdoor := slices.Index(powersReckoned(4), 9)
	for _, o := range [][2]int{{0, 0}, {0, 112}, {112, 0}, {112, 112}, {1, 1}, {5, 6}, {100, 57}} {
		told := 0
		for _, b := range allNumbers() {
			for _, other := range allNumbers() {
				got, ok := impl.CommitBreak(o[0], o[1], b, other)
				if b == o[0] || reckoned(b, other) != reckoned(o[0], o[1]) {
					wantNothing(t, "CommitBreak", got, ok)
					continue
				}
				told++
				if !ok || got != trapdoor {
					t.Errorf("CommitBreak(%d, %d, %d, %d) is %d, %v", o[0], o[1], b, other, got, ok)
				}
			}
		}
		if told != 112 {
			t.Errorf("%d openings break that of %d with %d", told, o[0], o[1])
		}
	}
}

// P38: of what is no number, among them what is one but for multiples of 113.
func TestCommitBreakIsToldJustOfNumbers(t *testing.T) {
	open := [4]int{5, 6, 9, commitTurn(t, 5, 6, 9)}
	for i := range open {
		for _, bad := range append(notNumbers(), open[i]+113, open[i]-113) {
			o := open
			o[i] = bad
			got, ok := impl.CommitBreak(o[0], o[1], o[2], o[3])
			wantNothing(t, "CommitBreak", got, ok)
			got, ok = impl.CommitBreak(bad, bad, o[2], o[3])
			wantNothing(t, "CommitBreak", got, ok)
			got, ok = impl.CommitBreak(bad, bad, bad, bad)
			wantNothing(t, "CommitBreak", got, ok)
		}
	}
}

// P39
func TestShareCheckHoldsOfSharesOfAndPublish(t *testing.T) {
	for _, g := range someGivings(draws(39)) {
		published := publish(t, g.secret, g.tape)
		if want := publishedReckoned(g.secret, g.tape); !slices.Equal(published, want) {
			t.Errorf("Publish(%d, %v) is %v, not %v", g.secret, g.tape, published, want)
		}
		for n := g.n; n <= 7; n++ { // what is published does not depend on the number of parties
			for _, share := range sharesOf(t, giving{g.secret, n, g.tape}) {
				if !impl.ShareCheck(published, share) {
					t.Errorf("ShareCheck(%v, %v) is false: the tape is %v", published, share, g.tape)
				}
			}
		}
	}
}

// P39: of each secret by an empty tape, with answers reckoned by hand besides.
func TestPublishOfEachSecret(t *testing.T) {
	powersOfG := powersReckoned(4)
	for _, secret := range allNumbers() {
		if got := publish(t, secret, nil); got[0] != powersOfG[secret] {
			t.Errorf("Publish of %d with an empty tape is %v", secret, got)
		}
		for x := 1; x <= 7; x++ {
			if !impl.ShareCheck([]int{powersOfG[secret]}, impl.Point{X: x, Y: secret}) {
				t.Errorf("the share %d of %d by an empty tape does not fit", x, secret)
			}
		}
	}
	for _, c := range []struct {
		secret     int
		tape, want []int
	}{
		{0, nil, []int{1}},
		{112, []int{112, 0}, []int{57, 57, 1}},
		{1, []int{2, 3, 1, 0, 0, 4}, []int{4, 16, 64, 4, 1, 1, 29}}, // 256 is 29
	} {
		if got := publish(t, c.secret, c.tape); !slices.Equal(got, c.want) {
			t.Errorf("Publish(%d, %v) is %v, not %v", c.secret, c.tape, got, c.want)
		}
	}
}

// P39: of what is no number, and by a tape that is too long.
func TestPublishIsToldJustOfGivings(t *testing.T) {
	wantNone := func(secret int, tape []int) {
		t.Helper()
		published, ok := impl.Publish(secret, tape)
		wantNoList(t, "Publish", published, ok)
	}
	for _, bad := range notNumbers() {
		wantNone(bad, nil)
		wantNone(bad, []int{1, 2})
		for n := 1; n <= 6; n++ {
			for i := range n {
				tape := slices.Repeat([]int{3}, n)
				tape[i] = bad
				wantNone(3, tape)
			}
		}
	}
	for _, length := range []int{7, 8, 20, 1000} {
		wantNone(0, make([]int, length))
		wantNone(3, slices.Repeat([]int{112}, length))
	}
}

// P40
func TestShareCheckHoldsOfNoOtherY(t *testing.T) {
	for _, g := range someGivings(draws(40)) {
		published := publishedReckoned(g.secret, g.tape)
		for _, share := range sharesReckoned(g) {
			for y := -113; y <= 339; y++ {
				if got := impl.ShareCheck(published, impl.Point{X: share.X, Y: y}); got != (y == share.Y) {
					t.Errorf("ShareCheck(%v, %d, %d) is %v, and the share is %v", published, share.X, y, got, share)
				}
			}
		}
	}
}

// P40: with answers reckoned by hand: what was published is of 7 + 2*x.
func TestShareCheckReckonedByHand(t *testing.T) {
	published := []int{40, 16} // 4 to the 7th is 16384, which is 40, and 4 to the 2nd is 16
	for x, y := range map[int]int{1: 9, 2: 11, 3: 13, 7: 21} {
		if !impl.ShareCheck(published, impl.Point{X: x, Y: y}) || impl.ShareCheck(published, impl.Point{X: x, Y: y + 1}) {
			t.Errorf("ShareCheck does not hold just of %d at %d", y, x)
		}
		if impl.ShareCheck([]int{16, 40}, impl.Point{X: x, Y: y}) != (x == 1) {
			t.Errorf("ShareCheck of 2 + 7*x for %d at %d", y, x)
		}
	}
}

// P40: of what is no element, of nothing, and of too much that is published; the share would fit otherwise.
func TestShareCheckIsToldJustOfElements(t *testing.T) {
	wantNone := func(published []int, share impl.Point) {
		t.Helper()
		if impl.ShareCheck(published, share) {
			t.Errorf("ShareCheck(%v, %v) is true", published, share)
		}
	}
	for x := 1; x <= 7; x++ {
		for _, y := range allNumbers() {
			wantNone(nil, impl.Point{X: x, Y: y})
			wantNone([]int{}, impl.Point{X: x, Y: y})
		}
	}
	draw := draws(401)
	for _, tape := range [][]int{make([]int, 7), drawnList(draw, 7), make([]int, 8), drawnList(draw, 19), make([]int, 999)} {
		published := publishedReckoned(5, tape)
		for _, share := range sharesReckoned(giving{5, 7, tape}) {
			wantNone(published, share)
		}
	}
	for n := 1; n <= 7; n++ {
		for i := range n {
			tape := make([]int, n-1)
			published := publishedReckoned(0, tape)
			for _, bad := range notElements() {
				published[i] = bad
				wantNone(published, impl.Point{X: 1, Y: 0})
				wantNone(published, impl.Point{X: 7, Y: 0})
			}
			published[i] = 1 + 227 // 1, which does not count, but for 227
			wantNone(published, impl.Point{X: 2, Y: 0})
			published[i] = 226 // -1, whose even powers are 1, but it is no element
			wantNone(published, impl.Point{X: 2, Y: 0})
		}
	}
}

// P40: of what is no share, though it is one but for multiples of 113, or of a party that there is not.
func TestShareCheckIsToldJustOfShares(t *testing.T) {
	for n := 1; n <= 7; n++ {
		tape := drawnList(draws(uint32(402+n)), n-1)
		published := publishedReckoned(5, tape)
		for _, share := range sharesReckoned(giving{5, 113, tape}) {
			want := share.X <= 7
			share.X %= 113 // there is the secret at 0
			if got := impl.ShareCheck(published, share); got != want {
				t.Errorf("ShareCheck(%v, %v) is %v", published, share, got)
			}
			for _, by := range []int{-226, -113, 113, 226, 1130} {
				if impl.ShareCheck(published, impl.Point{X: share.X + by, Y: share.Y}) || impl.ShareCheck(published, impl.Point{X: share.X, Y: share.Y + by}) {
					t.Errorf("ShareCheck(%v, %v) holds but for %d", published, share, by)
				}
			}
		}
		for _, bad := range extremes() {
			if impl.ShareCheck(published, impl.Point{X: bad, Y: 5}) || impl.ShareCheck(published, impl.Point{X: 1, Y: bad}) || impl.ShareCheck(published, impl.Point{X: bad, Y: bad}) {
				t.Errorf("ShareCheck(%v) holds of %d", published, bad)
			}
		}
	}
}

// P41: elements are published that are drawn, whatever was given out.
func TestSharesThatFitJoinToWhatIsPublishedFirst(t *testing.T) {
	draw, elements := draws(41), allElements()
	for n := 1; n <= 7; n++ {
		for range 12 {
			published := make([]int, n)
			for i := range published {
				published[i] = elements[draw(113)*min(draw(4), 1)]
			}
			list := drawnShares(draw, 7, 7)
			for i := range list {
				list[i].Y = fittingY(t, published, list[i].X)
			}
			for first := 0; first+n <= 7; first++ {
				some := list[first : first+n]
				if got := elementPow(t, 4, sharesJoin(t, some)); got != published[0] {
					t.Errorf("the power of BaseG with SharesJoin(%v) is %d, and %v is published", some, got, published)
				}
			}
		}
	}
}

// fittingY returns the one number that fits what was published for an X; it fails the test unless there is one, and no other.
func fittingY(t *testing.T, published []int, x int) int {
	t.Helper()
	var ys []int
	for _, y := range allNumbers() {
		if impl.ShareCheck(published, impl.Point{X: x, Y: y}) {
			ys = append(ys, y)
		}
	}
	if len(ys) != 1 {
		t.Fatalf("for the X %d %v fit %v", x, ys, published)
	}
	return ys[0]
}

// P41: one share that does not fit leads elsewhere, so that it must be checked.
func TestAShareThatDoesNotFitLeadsElsewhere(t *testing.T) {
	draw := draws(411)
	for _, g := range someGivings(draw) {
		published := publish(t, g.secret, g.tape)
		list := sharesOf(t, g)[:len(g.tape)+1]
		for i := range list {
			wrong := slices.Clone(list)
			wrong[i].Y = (wrong[i].Y + 1 + draw(112)) % 113
			if elementPow(t, 4, sharesJoin(t, wrong)) == published[0] || impl.ShareCheck(published, wrong[i]) {
				t.Errorf("the share %v is not seen to be wrong by %v", wrong[i], published)
			}
		}
		if got := elementPow(t, 4, sharesJoin(t, list)); got != published[0] {
			t.Errorf("the power of BaseG with SharesJoin(%v) is %d, not %d", list, got, published[0])
		}
	}
}

// P34 to P41: what was told before does not count, whatever it was.
func TestCommitmentsKeepNoState(t *testing.T) {
	told := func(a, b int) [7]int {
		c, _ := impl.Commit(a, b)
		turned, _ := impl.CommitTurn(a, b, 7)
		broken, _ := impl.CommitBreak(a, b, 7, turned)
		published, _ := impl.Publish(a, []int{b})
		fits := 0
		for _, y := range allNumbers() {
			if impl.ShareCheck(published, impl.Point{X: 3, Y: y}) {
				fits = y
			}
		}
		published = append(published, 0, 0)
		return [7]int{c, turned, broken, impl.Trapdoor(), published[0], published[1], fits}
	}
	var before [][7]int
	for a := -2; a <= 115; a += 3 {
		for b := -2; b <= 115; b += 3 {
			before = append(before, told(a, b))
		}
	}
	for a := 115; a >= -2; a -= 3 {
		for b := 115; b >= -2; b -= 3 {
			last := before[len(before)-1]
			if got := told(a, b); got != last {
				t.Errorf("of %d and %d is told %v, and %v before", a, b, got, last)
			}
			before = before[:len(before)-1]
		}
	}
}

// P39 to P41: the general rules on memory. Publish is called twice, so that both results are held against each other.
func TestCommitmentsOwnTheirMemory(t *testing.T) {
	for _, g := range append(someGivings(draws(412)), giving{113, 3, []int{1, 2}}, giving{1, 3, []int{1, -1}}, giving{1, 7, make([]int, 7)}) {
		tape := withSpare(g.tape)
		wantOwnMemory(t, "Publish", [][]int{tape}, func() [][]int {
			first, _ := impl.Publish(g.secret, tape)
			second, _ := impl.Publish(g.secret, tape)
			return [][]int{first, second}
		})
		published, _ := impl.Publish(g.secret, tape)
		for _, list := range [][]int{withSpare(published), tape} {
			wantOwnMemory(t, "ShareCheck", [][]int{list}, func() [][]int {
				fits := 0
				for y := range 113 {
					if impl.ShareCheck(list, impl.Point{X: 3, Y: y}) {
						fits = y
					}
				}
				return [][]int{{fits}}
			})
		}
	}
}
