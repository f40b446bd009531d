package tests

import (
	"fmt"
	"slices"
	"testing"

	"loop.example/underveil/impl"
)

// summing is a claim of the sum of a cube, what is told in all rounds, and the challenges.
type summing struct {
	cube   []int
	claim  int
	rounds []impl.Point
	chals  []int
}

func (s summing) check() bool { return impl.CubeCheck(s.cube, s.claim, s.rounds, s.chals) }

// lying is a claim of the sum of a cube of 4 numbers, what is told first, and then for each first challenge.
type lying struct {
	cube  []int
	claim int
	first impl.Point
	then  []impl.Point
}

func (l lying) lies() int { return impl.CubeLies(l.cube, l.claim, l.first, l.then) }

// bitsOf returns the bits of an index, n of them, the least one first.
func bitsOf(index, n int) []int {
	list := make([]int, n)
	for k := range list {
		list[k] = index / (1 << k) % 2
	}
	return list
}

// variablesOf returns how many bits an index of a cube has.
func variablesOf(cube []int) int {
	return map[int]int{2: 1, 4: 2, 8: 3}[len(cube)]
}

// extensionReckoned reckons the extension of a cube, number by number.
func extensionReckoned(cube, at []int) int {
	sum := 0
	for i, a := range cube {
		for k, bit := range bitsOf(i, len(at)) {
			a = a * (bit*at[k] + (1-bit)*(114-at[k])) % 113
		}
		sum += a
	}
	return sum % 113
}

// roundsReckoned reckons what an honest prover tells, from the extension with all later bits.
func roundsReckoned(cube, chals []int) []impl.Point {
	rounds := make([]impl.Point, len(chals))
	for k := range chals {
		later := len(chals) - k - 1
		for i := range 1 << later {
			rounds[k].X += extensionReckoned(cube, slices.Concat(chals[:k], []int{0}, bitsOf(i, later)))
			rounds[k].Y += extensionReckoned(cube, slices.Concat(chals[:k], []int{1}, bitsOf(i, later)))
		}
		rounds[k] = impl.Point{X: rounds[k].X % 113, Y: rounds[k].Y % 113}
	}
	return rounds
}

// onLine reckons the value of the line that has X at 0 and Y at 1.
func onLine(p impl.Point, at int) int {
	return (p.X*(114-at) + p.Y*at) % 113
}

// endsOf returns the point with an X that adds up to a number.
func endsOf(x, sum int) impl.Point {
	return impl.Point{X: x, Y: (113 + sum - x) % 113}
}

// accepted reckons whether a claim is accepted; all is of numbers, and as many as it must be.
func (s summing) accepted() bool {
	due := s.claim
	for k, p := range s.rounds {
		if (p.X+p.Y)%113 != due {
			return false
		}
		due = onLine(p, s.chals[k])
	}
	return due == extensionReckoned(s.cube, s.chals)
}

// honest reckons the claim and the rounds of an honest prover.
func honest(cube, chals []int) summing {
	return summing{cube, addedUp(cube), roundsReckoned(cube, chals), chals}
}

// convincing returns a claim with rounds of drawn points that add up to what they must, the last of which fits at the end. The last challenge is not 57, the half of 1: there each point of a sum has the same value.
func convincing(draw func(int) int, cube []int, claim int, chals []int) summing {
	s := summing{cube, claim, nil, chals}
	due := claim
	for _, chal := range chals[:len(chals)-1] {
		told := endsOf(draw(113), due)
		s.rounds, due = append(s.rounds, told), onLine(told, chal)
	}
	last := slices.IndexFunc(allNumbers(), func(x int) bool {
		return onLine(endsOf(x, due), chals[len(chals)-1]) == extensionReckoned(cube, chals)
	})
	s.rounds = append(s.rounds, endsOf(last, due))
	return s
}

// someCubes returns cubes of 2, 4 and 8 numbers: nothing but 0, nothing but the greatest number, one number alone, numbers that ascend, and drawn ones.
func someCubes(draw func(int) int) [][]int {
	var list [][]int
	for _, n := range []int{2, 4, 8} {
		list = append(list, make([]int, n), slices.Repeat([]int{112}, n), allNumbers()[1:n+1], reversed(allNumbers())[:n])
		for i := range n {
			one := make([]int, n)
			one[i] = 1 + draw(112)
			list = append(list, one)
		}
		for range 5 {
			list = append(list, drawnList(draw, n), drawnPolynomial(draw, n))
		}
	}
	return list
}

// notCubes returns what are no cubes: lists of another length, or with one that is no number.
func notCubes() [][]int {
	list := [][]int{nil, {}}
	for _, n := range []int{1, 3, 5, 6, 7, 9, 10, 12, 15, 16, 17, 32, 64, 113, 1000} {
		list = append(list, make([]int, n), slices.Repeat([]int{1}, n), slices.Repeat([]int{112}, n))
	}
	for _, n := range []int{2, 4, 8} {
		for i := range n {
			for _, bad := range notNumbers() {
				cube := slices.Repeat([]int{1}, n)
				cube[i] = bad
				list = append(list, cube)
			}
		}
	}
	return list
}

// someChals returns challenges for a cube: at the edges, all of them 57 (the half of 1), and drawn ones.
func someChals(draw func(int) int, cube []int) [][]int {
	n := variablesOf(cube)
	list := [][]int{make([]int, n), slices.Repeat([]int{1}, n), slices.Repeat([]int{112}, n), slices.Repeat([]int{57}, n)}
	for range 12 {
		chals := make([]int, n)
		for k := range chals {
			chals[k] = edgeNumbers(draw)[draw(6)]
		}
		list = append(list, chals)
	}
	return list
}

// allChals calls a function for all lists of one or two challenges, and for those of three that have an edge as the first and the last one.
func allChals(draw func(int) int, cube []int, call func(chals []int)) {
	for _, a := range allNumbers() {
		switch len(cube) {
		case 2:
			call([]int{a})
		case 4:
			for _, b := range allNumbers() {
				call([]int{a, b})
			}
		case 8:
			for _, b := range edgeNumbers(draw) {
				for _, c := range edgeNumbers(draw) {
					call([]int{b, a, c})
					call([]int{a, b, c})
					call([]int{b, c, a})
				}
			}
		}
	}
}

func cubeAt(t *testing.T, cube, at []int) int {
	t.Helper()
	value, ok := impl.CubeAt(cube, at)
	return wantNumber(t, fmt.Sprintf("CubeAt(%v, %v)", cube, at), value, ok)
}

func cubeProve(t *testing.T, cube, chals []int) []impl.Point {
	t.Helper()
	rounds, ok := impl.CubeProve(cube, chals)
	if !ok || len(rounds) != len(chals) {
		t.Fatalf("CubeProve(%v, %v) is %v, %v", cube, chals, rounds, ok)
	}
	return rounds
}

// wantCheck fails the test unless CubeCheck is as reckoned; it returns it.
func wantCheck(t *testing.T, s summing) bool {
	t.Helper()
	got := s.check()
	if got != s.accepted() {
		t.Errorf("CubeCheck(%v, %d, %v, %v) is %v", s.cube, s.claim, s.rounds, s.chals, got)
	}
	return got
}

// wantNotProved fails the test unless CubeAt and CubeProve tell nothing.
func wantNotProved(t *testing.T, cube, numbers []int) {
	t.Helper()
	value, ok := impl.CubeAt(cube, numbers)
	wantNothing(t, fmt.Sprintf("CubeAt(%v, %v)", cube, numbers), value, ok)
	rounds, ok := impl.CubeProve(cube, numbers)
	wantNoShares(t, fmt.Sprintf("CubeProve(%v, %v)", cube, numbers), rounds, ok)
}

// P102
func TestCubeSumIsToldJustOfCubes(t *testing.T) {
	wantSum := func(cube []int) {
		t.Helper()
		if got, want := impl.CubeSum(cube), addedUp(cube); got != want || !impl.CubeOk(cube) {
			t.Errorf("CubeSum(%v) is %d, not %d, or CubeOk is %v", cube, got, want, impl.CubeOk(cube))
		}
	}
	for _, cube := range someCubes(draws(102)) {
		wantSum(cube)
		for i := range cube {
			for _, a := range allNumbers() {
				other := slices.Clone(cube)
				other[i] = a
				wantSum(other)
			}
		}
	}
	for _, cube := range notCubes() {
		if got := impl.CubeSum(cube); got != -1 || impl.CubeOk(cube) {
			t.Errorf("CubeSum(%v) is %d, or CubeOk is %v", cube, got, impl.CubeOk(cube))
		}
	}
}

// P103: the least bit is the first variable.
func TestCubeAtTheBitsOfAnIndexIsTheNumber(t *testing.T) {
	for _, cube := range someCubes(draws(103)) {
		sum := 0
		for i, want := range cube {
			at := bitsOf(i, variablesOf(cube))
			got := cubeAt(t, cube, at)
			if got != want {
				t.Errorf("CubeAt(%v, %v) is %d, not %d", cube, at, got, want)
			}
			sum += got
		}
		if got := impl.CubeSum(cube); got != sum%113 {
			t.Errorf("CubeSum(%v) is %d, not %d", cube, got, sum%113)
		}
	}
}

// P103: at other numbers, too.
func TestCubeAtEachNumber(t *testing.T) {
	draw := draws(1030)
	for _, cube := range someCubes(draw) {
		allChals(draw, cube, func(at []int) {
			if got, want := cubeAt(t, cube, at), extensionReckoned(cube, at); got != want {
				t.Errorf("CubeAt(%v, %v) is %d, not %d", cube, at, got, want)
			}
		})
	}
}

// P103 and P105: of what is no cube, and at challenges that are too few, too many or no numbers.
func TestCubeAtAndCubeProveAreToldJustOfCubes(t *testing.T) {
	draw := draws(1031)
	for _, cube := range notCubes() {
		for n := range 5 {
			wantNotProved(t, cube, make([]int, n))
		}
	}
	for _, cube := range someCubes(draw) {
		n := variablesOf(cube)
		for _, bad := range append(notLists(n), make([]int, n-1), make([]int, n+1), []int{}, nil) {
			wantNotProved(t, cube, bad)
		}
		for _, chals := range someChals(draw, cube) {
			wantNotProved(t, cube, chals[1:])
			wantNotProved(t, cube, append(slices.Clone(chals), draw(113)))
			for k := range chals {
				for _, bad := range append(extremes(), chals[k]+113, chals[k]-113) {
					broken := slices.Clone(chals)
					broken[k] = bad
					wantNotProved(t, cube, broken)
				}
			}
		}
		for _, bad := range notNumbers() {
			wantNotProved(t, cube, slices.Repeat([]int{bad}, n))
		}
	}
}

// P104: and in each other variable, and at all numbers.
func TestCubeAtLiesOnALine(t *testing.T) {
	draw := draws(104)
	for _, cube := range someCubes(draw) {
		for _, at := range someChals(draw, cube) {
			for k := range at {
				var values []int
				for _, a := range allNumbers() {
					moved := slices.Clone(at)
					moved[k] = a
					values = append(values, cubeAt(t, cube, moved))
				}
				for a := 2; a < 113; a++ {
					if sub(t, values[a], values[a-1]) != sub(t, values[1], values[0]) {
						t.Errorf("CubeAt of %v, moved from %v in the variable %d, is %v, no line", cube, at, k, values)
						break
					}
				}
			}
		}
	}
}

// P105
func TestCubeCheckHoldsOfCubeSumAndCubeProve(t *testing.T) {
	draw := draws(105)
	for _, cube := range someCubes(draw) {
		allChals(draw, cube, func(chals []int) {
			s := honest(cube, chals)
			if got := cubeProve(t, cube, chals); !slices.Equal(got, s.rounds) {
				t.Errorf("CubeProve(%v, %v) is %v, not %v", cube, chals, got, s.rounds)
			}
			if !s.check() {
				t.Errorf("CubeCheck(%v, %d, %v, %v) is false", cube, s.claim, s.rounds, chals)
			}
		})
	}
}

// P105: what is told does not depend on challenges that come later.
func TestCubeProveIsToldRoundByRound(t *testing.T) {
	draw := draws(1050)
	for _, cube := range someCubes(draw) {
		for _, chals := range someChals(draw, cube) {
			rounds := cubeProve(t, cube, chals)
			for k := range chals {
				other := slices.Clone(chals)
				for j := k; j < len(other); j++ {
					other[j] = draw(113)
				}
				if got := cubeProve(t, cube, other); !slices.Equal(got[:k+1], rounds[:k+1]) {
					t.Errorf("CubeProve(%v) is %v for %v, and %v for %v", cube, rounds, chals, got, other)
				}
			}
		}
	}
}

// P103 and P105, with answers reckoned by hand.
func TestCubesReckonedByHand(t *testing.T) {
	for _, c := range []struct {
		cube, at []int
		value    int
		rounds   []impl.Point
	}{
		{[]int{1, 2}, []int{0}, 1, []impl.Point{{X: 1, Y: 2}}},
		{[]int{1, 2}, []int{5}, 6, []impl.Point{{X: 1, Y: 2}}},
		{[]int{112, 1}, []int{57}, 0, []impl.Point{{X: 112, Y: 1}}}, // 112 is -1, and 57 the half of 1
		{[]int{1, 2, 3, 4}, []int{5, 6}, 18, []impl.Point{{X: 4, Y: 6}, {X: 6, Y: 8}}},
		{[]int{0, 1, 0, 0}, []int{5, 6}, 88, []impl.Point{{X: 0, Y: 1}, {X: 5, Y: 0}}}, // 5 times -5 is -25
		{[]int{0, 0, 1, 0}, []int{5, 6}, 89, []impl.Point{{X: 1, Y: 0}, {X: 0, Y: 109}}},
		{[]int{112, 112, 112, 112}, []int{7, 100}, 112, []impl.Point{{X: 111, Y: 111}, {X: 112, Y: 112}}},
		{[]int{1, 2, 3, 4, 5, 6, 7, 8}, []int{2, 3, 4}, 25, []impl.Point{{X: 16, Y: 20}, {X: 10, Y: 14}, {X: 9, Y: 13}}},
		{[]int{0, 0, 0, 0, 0, 0, 1, 0}, []int{2, 3, 4}, 101, []impl.Point{{X: 1, Y: 0}, {X: 0, Y: 112}, {X: 0, Y: 110}}}, // -1 times 3 times 4
	} {
		if got := cubeAt(t, c.cube, c.at); got != c.value {
			t.Errorf("CubeAt(%v, %v) is %d, not %d", c.cube, c.at, got, c.value)
		}
		if got := cubeProve(t, c.cube, c.at); !slices.Equal(got, c.rounds) {
			t.Errorf("CubeProve(%v, %v) is %v, not %v", c.cube, c.at, got, c.rounds)
		}
		sum := addedUp(c.cube)
		for _, claim := range allNumbers() {
			if got := impl.CubeCheck(c.cube, claim, c.rounds, c.at); got != (claim == sum) {
				t.Errorf("CubeCheck(%v, %d, %v, %v) is %v", c.cube, claim, c.rounds, c.at, got)
			}
		}
	}
}

// P106: each wrong claim, with rounds that are honest, and with rounds that convince.
func TestCubeCheckOfAWrongClaim(t *testing.T) {
	draw := draws(106)
	for _, cube := range someCubes(draw) {
		for _, chals := range someChals(draw, cube) {
			s := honest(cube, chals)
			for more := 1; more < 113; more++ {
				s.claim = (addedUp(cube) + more) % 113
				if s.check() {
					t.Errorf("CubeCheck(%v, %d, %v, %v) is true, of the sum %d", cube, s.claim, s.rounds, chals, addedUp(cube))
				}
				if chals[len(chals)-1] == 57 {
					continue
				}
				lie := convincing(draw, cube, s.claim, chals)
				if !wantCheck(t, lie) || slices.Equal(lie.rounds, cubeProve(t, cube, chals)) {
					t.Errorf("CubeCheck(%v, %d, %v, %v) is %v, or the rounds are honest", cube, lie.claim, lie.rounds, chals, lie.check())
				}
			}
		}
	}
}

// P106: all points that may be told of a cube of 2 numbers.
func TestCubeCheckOfEachPoint(t *testing.T) {
	draw := draws(1060)
	for _, cube := range [][]int{{0, 0}, {112, 112}, {5, 100}, {112, 1}} {
		for _, chal := range []int{0, 1, 57, 112, draw(113)} {
			for _, x := range allNumbers() {
				for _, y := range allNumbers() {
					s := summing{cube, (x + y) % 113, []impl.Point{{X: x, Y: y}}, []int{chal}}
					if wantCheck(t, s) && s.claim != addedUp(cube) && slices.Equal(s.rounds, cubeProve(t, cube, s.chals)) {
						t.Errorf("CubeCheck(%v, %d, %v, %v) is true", cube, s.claim, s.rounds, s.chals)
					}
					s.claim = draw(113)
					wantCheck(t, s)
				}
			}
		}
	}
}

// P106: rounds of drawn points that add up to what they must are accepted just if they fit at the end.
func TestCubeCheckOfDrawnPoints(t *testing.T) {
	draw := draws(1061)
	accepted := 0
	for _, cube := range slices.Concat(someCubes(draw), someCubes(draw)) {
		for _, chals := range someChals(draw, cube) {
			for range 40 {
				s := summing{cube: cube, claim: draw(113), chals: chals}
				due := s.claim
				for _, chal := range chals {
					told := endsOf(draw(113), due)
					s.rounds, due = append(s.rounds, told), onLine(told, chal)
				}
				accepted += oneIf(wantCheck(t, s))
				s.rounds[draw(len(chals))].X = draw(113)
				wantCheck(t, s)
			}
		}
	}
	if accepted < 100 {
		t.Errorf("just %d are accepted", accepted)
	}
}

// P106: the claim is right, and one round alone is not honest: by a point that adds up to the same, which is accepted just at 57, the half of 1, and by one that does not.
func TestCubeCheckOfALieInOneRound(t *testing.T) {
	draw := draws(1062)
	for _, cube := range someCubes(draw) {
		for _, chals := range someChals(draw, cube) {
			for k := range chals {
				for _, chals[k] = range []int{0, 1, 56, 57, 58, 112, draw(113)} {
					fine := honest(cube, chals)
					for more := 1; more < 113; more++ {
						lie, wrong := fine, fine
						lie.rounds, wrong.rounds = slices.Clone(fine.rounds), slices.Clone(fine.rounds)
						lie.rounds[k] = impl.Point{X: (lie.rounds[k].X + more) % 113, Y: (lie.rounds[k].Y + 113 - more) % 113}
						wrong.rounds[k].X = lie.rounds[k].X
						if wantCheck(t, lie) != (chals[k] == 57) || wantCheck(t, wrong) {
							t.Errorf("CubeCheck(%v, %d, %v, %v) is %v, or it is true of %v", cube, lie.claim, lie.rounds, chals, lie.check(), wrong.rounds)
						}
					}
				}
			}
		}
	}
}

// P106: who lies in the first round alone is refused in the second one, and who lies in both by the extension at the end.
func TestCubeCheckOfALieThatGoesOn(t *testing.T) {
	draw := draws(1063)
	for _, cube := range someCubes(draw) {
		if len(cube) == 2 {
			continue
		}
		for _, chals := range someChals(draw, cube) {
			fine := honest(cube, chals)
			lie := fine
			lie.rounds = slices.Clone(fine.rounds)
			lie.claim = (fine.claim + 1 + draw(112)) % 113
			lie.rounds[0] = endsOf(draw(113), lie.claim)
			due := onLine(lie.rounds[0], chals[0])
			if got := wantCheck(t, lie); got != (due == onLine(fine.rounds[0], chals[0])) {
				t.Errorf("CubeCheck(%v, %d, %v, %v) is %v", cube, lie.claim, lie.rounds, chals, got)
			}
			for _, x := range allNumbers() {
				lie.rounds[1] = endsOf(x, due)
				wantCheck(t, lie)
			}
		}
	}
}

// brokenSummings returns what differs from a claim that is accepted in one argument that is not valid.
func brokenSummings(s summing) []summing {
	var list []summing
	put := func(change func(s *summing)) {
		other := summing{slices.Clone(s.cube), s.claim, slices.Clone(s.rounds), slices.Clone(s.chals)}
		change(&other)
		list = append(list, other)
	}
	for _, cube := range slices.Concat(notCubes()[:47], [][]int{slices.Concat(s.cube, s.cube), s.cube[:len(s.cube)/2], s.cube[1:], append(slices.Clone(s.cube), 0)}) {
		put(func(s *summing) { s.cube = cube })
	}
	for _, bad := range append(extremes(), s.claim+113, s.claim-113) {
		put(func(s *summing) { s.claim = bad })
	}
	put(func(s *summing) { s.rounds = nil })
	put(func(s *summing) { s.rounds = s.rounds[1:] })
	put(func(s *summing) { s.rounds = s.rounds[:len(s.rounds)-1] })
	put(func(s *summing) { s.rounds = append(s.rounds, impl.Point{}) })
	put(func(s *summing) { s.chals = nil })
	put(func(s *summing) { s.chals = s.chals[1:] })
	put(func(s *summing) { s.chals = s.chals[:len(s.chals)-1] })
	put(func(s *summing) { s.chals = append(s.chals, 0) })
	put(func(s *summing) { s.rounds, s.chals = nil, nil })
	put(func(s *summing) { s.rounds, s.chals = s.rounds[1:], s.chals[1:] })
	put(func(s *summing) { s.rounds, s.chals = append(s.rounds, s.rounds[0]), append(s.chals, s.chals[0]) })
	for k := range s.chals {
		for _, bad := range extremes() {
			put(func(s *summing) { s.chals[k] = bad })
			put(func(s *summing) { s.rounds[k].X = bad })
			put(func(s *summing) { s.rounds[k].Y = bad })
		}
		for _, more := range []int{113, -113, 226, -226} {
			put(func(s *summing) { s.chals[k] += more })
			put(func(s *summing) { s.rounds[k].X += more })
			put(func(s *summing) { s.rounds[k].Y += more })
			put(func(s *summing) { s.rounds[k].X, s.rounds[k].Y = s.rounds[k].X+more, s.rounds[k].Y-more })
		}
	}
	for i := range s.cube {
		for _, bad := range append(extremes(), s.cube[i]+113, s.cube[i]-113) {
			put(func(s *summing) { s.cube[i] = bad })
		}
	}
	return list
}

// P105 and P106: of what is not valid CubeCheck does not hold.
func TestCubeCheckHoldsJustOfNumbers(t *testing.T) {
	draw := draws(1064)
	for _, cube := range someCubes(draw) {
		for _, chals := range someChals(draw, cube)[:8] {
			s := honest(cube, chals)
			if !wantCheck(t, s) {
				t.Errorf("CubeCheck of %v is false", s)
			}
			for _, broken := range brokenSummings(s) {
				if broken.check() {
					t.Errorf("CubeCheck(%v, %d, %v, %v) is true", broken.cube, broken.claim, broken.rounds, broken.chals)
				}
			}
		}
	}
	if impl.CubeCheck(nil, 0, nil, nil) || impl.CubeCheck([]int{}, 0, []impl.Point{}, []int{}) || impl.CubeCheck([]int{5}, 5, nil, nil) {
		t.Error("CubeCheck of nothing is true")
	}
}

// tricksReckoned reckons for how many lists of challenges two cubes of 2 or 4 numbers have the same extension.
func tricksReckoned(cube, other []int) int {
	many := 0
	allChals(nil, cube, func(chals []int) {
		many += oneIf(extensionReckoned(cube, chals) == extensionReckoned(other, chals))
	})
	return many
}

// wantTricks fails the test unless CubeTricks is as reckoned and not more than promised; it returns it.
func wantTricks(t *testing.T, cube, other []int) int {
	t.Helper()
	got, want := impl.CubeTricks(cube, other), tricksReckoned(cube, other)
	if got != want {
		t.Errorf("CubeTricks(%v, %v) is %d, not %d", cube, other, got, want)
	}
	most := map[int]int{2: 1, 4: 2 * 113}[len(cube)]
	if slices.Equal(cube, other) {
		most = map[int]int{2: 113, 4: 113 * 113}[len(cube)]
		if got != most {
			t.Errorf("CubeTricks(%v, %v) is %d, not %d", cube, other, got, most)
		}
	}
	if got > most {
		t.Errorf("CubeTricks(%v, %v) is %d, more than %d", cube, other, got, most)
	}
	return got
}

// P107: all cubes of 2 numbers, and for cubes of 4 numbers ones that differ in one number, and ones of the same sum.
func TestCubeTricksOfOtherCubes(t *testing.T) {
	draw := draws(107)
	for _, x := range allNumbers() {
		for _, y := range allNumbers() {
			wantTricks(t, []int{5, 100}, []int{x, y})
		}
	}
	for _, cube := range someCubes(draw) {
		if len(cube) == 8 {
			continue
		}
		wantTricks(t, cube, cube)
		wantTricks(t, cube, slices.Clone(cube))
		for i := range cube {
			one, same := slices.Clone(cube), slices.Clone(cube)
			more, j := 1+draw(112), (i+1+draw(len(cube)-1))%len(cube)
			one[i], same[i] = (one[i]+more)%113, (same[i]+more)%113
			same[j] = (same[j] + 113 - more) % 113
			if got := wantTricks(t, cube, one); got != map[int]int{2: 1, 4: 225}[len(cube)] { // 2*113 of both lines, on which one is twice
				t.Errorf("CubeTricks(%v, %v) is %d", cube, one, got)
			}
			if got := wantTricks(t, cube, same); got == 0 {
				t.Errorf("CubeTricks(%v, %v) is 0, though the sum is the same", cube, same)
			}
			wantTricks(t, one, same)
		}
		wantTricks(t, cube, drawnList(draw, len(cube)))
		wantTricks(t, cube, make([]int, len(cube)))
		wantTricks(t, cube, reversed(cube))
	}
}

// P107, with answers reckoned by hand.
func TestCubeTricksReckonedByHand(t *testing.T) {
	for _, c := range []struct {
		cube, other []int
		want        int
	}{
		{[]int{1, 2}, []int{1, 3}, 1}, // the same at 0
		{[]int{1, 2}, []int{2, 3}, 0}, // one more everywhere
		{[]int{1, 2}, []int{2, 1}, 1}, // the same at 57
		{[]int{1, 2}, []int{1, 2}, 113},
		{[]int{0, 0, 0, 0}, []int{0, 0, 0, 0}, 12769},
		{[]int{0, 0, 0, 0}, []int{1, 1, 1, 1}, 0},
		{[]int{0, 0, 0, 0}, []int{0, 1, 0, 1}, 113},   // the first variable
		{[]int{0, 0, 0, 0}, []int{0, 0, 1, 1}, 113},   // the second one
		{[]int{0, 0, 0, 0}, []int{0, 0, 0, 1}, 225},   // their product
		{[]int{5, 5, 5, 5}, []int{6, 5, 5, 6}, 112},   // 1 less both, plus twice their product: for each first number but 57 one
		{[]int{0, 0, 0, 0}, []int{0, 1, 1, 2}, 113},   // their sum
		{[]int{0, 0, 0, 0}, []int{1, 112, 0, 0}, 225}, // 1 less twice the first one, times 1 less the second one
	} {
		if got := impl.CubeTricks(c.cube, c.other); got != c.want {
			t.Errorf("CubeTricks(%v, %v) is %d, not %d", c.cube, c.other, got, c.want)
		}
	}
}

// P107: of cubes of 8 numbers, of what is no cube, and of cubes that are not as long as each other.
func TestCubeTricksIsToldJustOfTwoCubes(t *testing.T) {
	wantNone := func(cube, other []int) {
		t.Helper()
		if got := impl.CubeTricks(cube, other); got != -1 {
			t.Errorf("CubeTricks(%v, %v) is %d", cube, other, got)
		}
	}
	wantNone(nil, nil)
	wantNone([]int{}, []int{})
	fine := [][]int{{0, 0}, {1, 2}, {1, 1, 1, 1}, {1, 2, 3, 112}}
	long := [][]int{make([]int, 8), slices.Repeat([]int{112}, 8), allNumbers()[1:9]}
	for _, bad := range slices.Concat(notCubes(), long) {
		for _, cube := range slices.Concat(fine, long) {
			wantNone(bad, cube)
			wantNone(cube, bad)
		}
		wantNone(bad, bad)
	}
	for _, short := range fine[:2] {
		for _, cube := range fine[2:] {
			wantNone(short, cube)
			wantNone(cube, short)
			wantNone(cube[:2], cube)
		}
	}
}

// reckoned reckons for how many pairs of challenges the claim is accepted.
func (l lying) reckoned() int {
	many := 0
	for _, a := range allNumbers() {
		for _, b := range allNumbers() {
			many += oneIf(summing{l.cube, l.claim, []impl.Point{l.first, l.then[a]}, []int{a, b}}.accepted())
		}
	}
	return many
}

// thenOf returns what is told for each first challenge, by a function of it, of what must be added up to, and of what an honest prover tells.
func (l lying) thenOf(tell func(chal, due int, honest impl.Point) impl.Point) lying {
	l.then = make([]impl.Point, 113)
	for a := range l.then {
		l.then[a] = tell(a, onLine(l.first, a), roundsReckoned(l.cube, []int{a, 0})[1])
	}
	return l
}

// wantLies fails the test unless CubeLies is as reckoned, and not more than promised; it returns it.
func wantLies(t *testing.T, l lying) int {
	t.Helper()
	got, want := l.lies(), l.reckoned()
	if got != want || l.claim != addedUp(l.cube) && got > 225 {
		t.Errorf("CubeLies(%v, %d, %v, %v) is %d, not %d", l.cube, l.claim, l.first, l.then, got, want)
	}
	return got
}

// wantManyLies fails the test unless CubeLies is so many.
func wantManyLies(t *testing.T, l lying, want int) {
	t.Helper()
	if got := wantLies(t, l); got != want {
		t.Errorf("CubeLies(%v, %d, %v, %v) is %d, not %d", l.cube, l.claim, l.first, l.then, got, want)
	}
}

// fourCubes returns the cubes of 4 numbers.
func fourCubes(draw func(int) int) [][]int {
	return slices.DeleteFunc(someCubes(draw), func(cube []int) bool { return len(cube) != 4 })
}

// honestLying returns what an honest prover claims and tells.
func honestLying(cube []int) lying {
	l := lying{cube: cube, claim: addedUp(cube), first: roundsReckoned(cube, []int{0, 0})[0]}
	return l.thenOf(func(_, _ int, honest impl.Point) impl.Point { return honest })
}

// P108: a claim that is right is accepted for all challenges of an honest prover, and for few ones if it lies in the first round, or in the second one.
func TestCubeLiesOfARightClaim(t *testing.T) {
	draw := draws(108)
	for _, cube := range fourCubes(draw) {
		fine := honestLying(cube)
		wantManyLies(t, fine, 12769)
		more := 1 + draw(112)
		second := fine.thenOf(func(_, due int, honest impl.Point) impl.Point { return endsOf((honest.X+more)%113, due) })
		wantManyLies(t, second, 113) // just at 57, for each first one
		one := fine
		one.then = slices.Clone(fine.then)
		at := draw(113)
		one.then[at].X = (one.then[at].X + more) % 113
		wantManyLies(t, one, 12769-113)
		first := fine
		first.first = endsOf((fine.first.X+more)%113, fine.claim)
		wantManyLies(t, first, 113) // just for 57
		wantManyLies(t, first.thenOf(func(_, due int, honest impl.Point) impl.Point { return endsOf(honest.X, due) }), 225)
	}
}

// P108: each claim that is not right, by a prover that is accepted as often as can be, and by one that lies without a place where the lines meet.
func TestCubeLiesOfEachWrongClaim(t *testing.T) {
	draw := draws(1080)
	for i, cube := range fourCubes(draw) {
		fine := honestLying(cube)
		for claim := i % 3; claim < 113; claim += 3 {
			if claim == fine.claim {
				continue
			}
			l := lying{cube: cube, claim: claim, first: endsOf(fine.first.X, claim)}
			wantManyLies(t, l.thenOf(func(_, due int, honest impl.Point) impl.Point { return endsOf(honest.X, due) }), 225)
			half := (claim - fine.claim + 113) * 57
			l.first = endsOf((fine.first.X+half)%113, claim) // both ends are as much more
			wantManyLies(t, l.thenOf(func(_, due int, honest impl.Point) impl.Point { return endsOf(honest.X, due) }), 113)
			l.first, l.then = fine.first, fine.then
			wantManyLies(t, l, 0)
		}
	}
}

// P108: what is told is drawn, so that it adds up to what it must at all first challenges, at some or at none.
func TestCubeLiesOfDrawnPoints(t *testing.T) {
	draw := draws(1081)
	for _, cube := range slices.Concat(fourCubes(draw), fourCubes(draw)) {
		for _, claim := range append(edgeNumbers(draw), addedUp(cube)) {
			l := lying{cube: cube, claim: claim, first: endsOf(draw(113), claim)}
			wantLies(t, l.thenOf(func(_, due int, _ impl.Point) impl.Point { return endsOf(draw(113), due) }))
			wantLies(t, l.thenOf(func(_, due int, _ impl.Point) impl.Point { return endsOf(draw(113), (due+draw(2))%113) }))
			l = l.thenOf(func(_, _ int, _ impl.Point) impl.Point { return impl.Point{X: draw(113), Y: draw(113)} })
			wantLies(t, l)
			l.first = impl.Point{X: draw(113), Y: draw(113)}
			wantLies(t, l)
		}
	}
}

// wantNoLies fails the test unless CubeLies is -1.
func wantNoLies(t *testing.T, l lying) {
	t.Helper()
	if got := l.lies(); got != -1 {
		t.Errorf("CubeLies(%v, %d, %v, %v) is %d", l.cube, l.claim, l.first, l.then, got)
	}
}

// P108: of cubes of 2 and 8 numbers, of what is no cube, no number or no point, and of a point less or more.
func TestCubeLiesIsToldJustOfACubeOfFourNumbers(t *testing.T) {
	draw := draws(1082)
	zeros := make([]impl.Point, 1000)
	wantNoLies(t, lying{})
	for _, fine := range []lying{honestLying([]int{0, 0, 0, 0}), honestLying([]int{1, 2, 3, 112})} {
		for _, bad := range slices.Concat(notCubes(), slices.DeleteFunc(someCubes(draw), func(cube []int) bool { return len(cube) == 4 })) {
			l := fine
			l.cube = bad
			wantNoLies(t, l)
		}
		for _, bad := range append(notNumbers(), fine.claim+113, fine.claim-113) {
			l := fine
			l.claim = bad
			wantNoLies(t, l)
			for i := range 4 {
				l = fine
				l.cube = slices.Clone(fine.cube)
				l.cube[i] = bad
				wantNoLies(t, l)
			}
		}
		for _, bad := range notNumbers() {
			for _, p := range []impl.Point{{X: bad}, {Y: bad}, {X: bad, Y: -bad}, {X: bad, Y: bad}} {
				l := fine
				l.first = p
				wantNoLies(t, l)
				l = fine
				l.then = slices.Clone(fine.then)
				l.then[draw(113)] = p
				wantNoLies(t, l)
			}
		}
		for a := range 113 {
			for _, bad := range []int{-1, 113, fine.then[a].X + 113, fine.then[a].X - 113} {
				l := fine
				l.then = slices.Clone(fine.then)
				l.then[a].X = bad
				wantNoLies(t, l)
				l.then[a] = impl.Point{X: fine.then[a].X, Y: bad}
				wantNoLies(t, l)
			}
		}
		for _, then := range [][]impl.Point{nil, {}, zeros[:1], zeros[:112], zeros[:114], zeros[:226], zeros, fine.then[1:], fine.then[:112], append(slices.Clone(fine.then), impl.Point{})} {
			l := fine
			l.then = then
			wantNoLies(t, l)
		}
	}
}

// wantSumsKept fails the test if one of the functions does not keep the rules on memory.
func wantSumsKept(t *testing.T, cube, other, chals []int, rounds, then []impl.Point) {
	t.Helper()
	behind := impl.Point{X: spare - 1, Y: spare - 1}
	proved := func() [][]impl.Point {
		first, _ := impl.CubeProve(cube, chals)
		second, _ := impl.CubeProve(cube, chals)
		return [][]impl.Point{first, second}
	}
	told := func() [][]int {
		value, ok := impl.CubeAt(cube, chals)
		checked := impl.CubeCheck(cube, impl.CubeSum(cube), rounds, chals)
		return [][]int{{value, oneIf(ok), oneIf(impl.CubeOk(cube)), impl.CubeSum(cube), oneIf(checked), impl.CubeTricks(cube, other), impl.CubeLies(cube, 5, impl.Point{X: 2, Y: 3}, then)}}
	}
	wantOwnMemoryOf(t, "CubeProve", [][]int{cube, other, chals}, behind, proved)
	wantOwnMemory(t, "CubeAt, CubeCheck, CubeTricks and CubeLies", [][]int{cube, other, chals}, told)
	wantOwnMemoryOf(t, "CubeCheck and CubeLies", [][]impl.Point{rounds, then}, spare-1, told)
}

// P102 to P108: the general rules on memory, also if several arguments are in the same memory.
func TestSumsOwnTheirMemory(t *testing.T) {
	draw := draws(1083)
	room := impl.Point{X: spare, Y: spare}
	for i, one := range append(someCubes(draw), notCubes()[:60]...) {
		cube := withSpare(one)
		for _, chals := range [][]int{withSpare(drawnList(draw, variablesOf(cube))), withSpare([]int{113}), nil, cube[:min(len(cube), variablesOf(cube))]} {
			var rounds []impl.Point
			if len(chals) > 0 && chals[0] < 113 && impl.CubeOk(cube) {
				rounds = roundsReckoned(cube, chals)
			}
			then := make([]impl.Point, 112+i%3)
			wantSumsKept(t, cube, withSpare(drawnList(draw, len(cube))), chals, withRoom(rounds, room), withRoom(then, room))
			wantSumsKept(t, cube, cube, chals, withRoom(then, room)[:len(chals)], withRoom(then, room))
		}
	}
}

// P102 to P108: what was told before does not count, nor what is told at the same time.
func TestSumsKeepNoState(t *testing.T) {
	atTheSameTime(1084, func(draw func(int) int) {
		list := someCubes(draw)
		for range 2 {
			for _, cube := range list {
				impl.CubeLies([]int{1, 2, 3, 4}, 11, impl.Point{X: 5, Y: 6}, make([]impl.Point, 113))
				impl.CubeTricks([]int{1, 2}, []int{113, 2})
				impl.CubeProve(cube, nil)
				for _, chals := range someChals(draw, cube) {
					s := honest(cube, chals)
					value, ok := impl.CubeAt(cube, chals)
					rounds, fine := impl.CubeProve(cube, chals)
					if !ok || !fine || value != extensionReckoned(cube, chals) || !slices.Equal(rounds, s.rounds) || !s.check() || impl.CubeSum(cube) != s.claim {
						t.Errorf("of %v for %v there are %d and %v", cube, chals, value, rounds)
					}
				}
				if len(cube) == 2 && impl.CubeTricks(cube, list[0]) != tricksReckoned(cube, list[0]) {
					t.Errorf("CubeTricks(%v, %v) is %d", cube, list[0], impl.CubeTricks(cube, list[0]))
				}
			}
		}
	})
}
