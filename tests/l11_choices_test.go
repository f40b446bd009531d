package tests

import (
	"fmt"
	"slices"
	"sync"
	"testing"

	"loop.example/underveil/impl"
)

// someDeals returns deals of 2 to 8 masks with each place: zeros, the greatest numbers, and drawn ones.
func someDeals(draw func(int) int) []impl.Deal {
	var list []impl.Deal
	for n := 2; n <= 8; n++ {
		for place := range n {
			for _, masks := range [][]int{make([]int, n), slices.Repeat([]int{112}, n), drawnList(draw, n), drawnList(draw, n)} {
				list = append(list, impl.Deal{Masks: masks, Place: place})
			}
		}
	}
	return list
}

// notDeals returns what are no deals: too few or too many masks, one that is no number, or a place that is none of them.
func notDeals() []impl.Deal {
	list := []impl.Deal{{}, {Masks: []int{}}, {Place: 1}}
	for _, n := range []int{1, 9, 10, 1000} {
		list = append(list, impl.Deal{Masks: make([]int, n)}, impl.Deal{Masks: make([]int, n), Place: n - 1})
	}
	for n := 2; n <= 8; n++ {
		for _, place := range append(extremes(), n, n+1, -n) {
			list = append(list, impl.Deal{Masks: make([]int, n), Place: place})
		}
		for i := range n {
			for _, bad := range extremes() {
				masks := slices.Repeat([]int{1}, n)
				masks[i] = bad
				list = append(list, impl.Deal{Masks: masks, Place: i}, impl.Deal{Masks: masks, Place: (i + 1) % n})
			}
		}
	}
	return list
}

// notIndexes returns what are no indexes of n things.
func notIndexes(n int) []int {
	return append(extremes(), n, n+1, 2*n, -n, -n-1, 8, 9)
}

// someThings returns lists of n numbers: zeros, the greatest numbers, and drawn ones.
func someThings(draw func(int) int, n int) [][]int {
	return [][]int{make([]int, n), slices.Repeat([]int{112}, n), drawnList(draw, n), drawnList(draw, n)}
}

// someOthers returns things of which the one with an index is the same: all of them, some, and none of the others are.
func someOthers(draw func(int) int, things []int, index int) [][]int {
	list := append(someThings(draw, len(things)), slices.Clone(things), make([]int, len(things)))
	for i, a := range things {
		list[5][i] = (a + 1 + draw(112)) % 113
	}
	for _, others := range list {
		others[index] = things[index]
	}
	return list
}

// askedReckoned reckons what is asked: how far the place is behind the choice, round and round.
func askedReckoned(n, place, choice int) int {
	asked := 0
	for (choice+asked)%n != place {
		asked++
	}
	return asked
}

// answerReckoned reckons the answer: the masks begin with the one whose index was asked.
func answerReckoned(masks, things []int, asked int) []int {
	answer := slices.Concat(masks[asked:], masks[:asked])
	for i, a := range things {
		answer[i] = (answer[i] + a) % 113
	}
	return answer
}

// wantIndex fails the test unless a result is an index of n things, and true; it returns the index.
func wantIndex(t *testing.T, name string, got int, ok bool, n int) int {
	t.Helper()
	if !ok || got < 0 || got >= n {
		t.Fatalf("%s is %d, %v, no index of %d things", name, got, ok, n)
	}
	return got
}

func choiceAsk(t *testing.T, d impl.Deal, choice int) int {
	t.Helper()
	asked, ok := impl.ChoiceAsk(d, choice)
	return wantIndex(t, fmt.Sprintf("ChoiceAsk(%v, %d)", d, choice), asked, ok, len(d.Masks))
}

func choiceAnswer(t *testing.T, d impl.Deal, things []int, asked int) []int {
	t.Helper()
	answer, ok := impl.ChoiceAnswer(d, things, asked)
	return wantList(t, fmt.Sprintf("ChoiceAnswer(%v, %v, %d)", d, things, asked), answer, ok, len(things))
}

func choiceTake(t *testing.T, answer []int, choice, mask int) int {
	t.Helper()
	thing, ok := impl.ChoiceTake(answer, choice, mask)
	return wantNumber(t, fmt.Sprintf("ChoiceTake(%v, %d, %d)", answer, choice, mask), thing, ok)
}

func choiceMasks(t *testing.T, d impl.Deal, choice int, things, others []int) []int {
	t.Helper()
	masks, ok := impl.ChoiceMasks(d, choice, things, others)
	return wantList(t, fmt.Sprintf("ChoiceMasks(%v, %d, %v, %v)", d, choice, things, others), masks, ok, len(things))
}

// P61
func TestChoiceAskIsToldForChoiceZeroJustOfDeals(t *testing.T) {
	for _, d := range someDeals(draws(61)) {
		if asked := choiceAsk(t, d, 0); asked != d.Place || !impl.DealOk(d) {
			t.Errorf("ChoiceAsk(%v, 0) is %d, or it is not ok", d, asked)
		}
	}
	for _, bad := range notDeals() {
		if impl.DealOk(bad) {
			t.Errorf("DealOk(%v) is true", bad)
		}
		for choice := range 9 {
			asked, ok := impl.ChoiceAsk(bad, choice)
			wantNothing(t, fmt.Sprintf("ChoiceAsk(%v, %d)", bad, choice), asked, ok)
		}
	}
}

// P61: each number may be a mask, at each place.
func TestDealOkOfEachMask(t *testing.T) {
	for n := 2; n <= 8; n++ {
		for place := range n {
			for _, mask := range allNumbers() {
				masks := make([]int, n)
				masks[place] = mask
				if d := (impl.Deal{Masks: masks, Place: n - 1 - place}); !impl.DealOk(d) {
					t.Errorf("DealOk(%v) is false", d)
				}
			}
		}
	}
}

// P62: for each choice with each place, as the place of a deal, too.
func TestChoicePlaceOfChoiceAskIsThePlace(t *testing.T) {
	for _, d := range someDeals(draws(62)) {
		n := len(d.Masks)
		for choice := range n {
			asked := choiceAsk(t, d, choice)
			if want := askedReckoned(n, d.Place, choice); asked != want {
				t.Errorf("ChoiceAsk(%v, %d) is %d, not %d", d, choice, asked, want)
			}
			if got := impl.ChoicePlace(n, choice, asked); got != d.Place {
				t.Errorf("ChoicePlace(%d, %d, %d) is %d, not %d", n, choice, asked, got, d.Place)
			}
		}
		if asked := choiceAsk(t, d, d.Place); asked != 0 {
			t.Errorf("ChoiceAsk(%v) of the place is %d, not 0", d, asked)
		}
	}
}

// P61 and P62: of a choice that is no index.
func TestChoiceAskIsToldJustOfIndexes(t *testing.T) {
	for _, d := range someDeals(draws(620)) {
		for _, bad := range notIndexes(len(d.Masks)) {
			asked, ok := impl.ChoiceAsk(d, bad)
			wantNothing(t, fmt.Sprintf("ChoiceAsk(%v, %d)", d, bad), asked, ok)
		}
	}
}

// P62 and P65: of numbers of things that are none, and of what are no indexes.
func TestChoicePlaceIsToldJustOfIndexes(t *testing.T) {
	wantNone := func(n, choice, asked int) {
		t.Helper()
		if got := impl.ChoicePlace(n, choice, asked); got != -1 {
			t.Errorf("ChoicePlace(%d, %d, %d) is %d, not -1", n, choice, asked, got)
		}
	}
	for n := -20; n <= 20; n++ {
		for choice := -20; choice <= 20; choice++ {
			for asked := -20; asked <= 20; asked++ {
				if n < 2 || n > 8 || choice < 0 || choice >= n || asked < 0 || asked >= n {
					wantNone(n, choice, asked)
				}
			}
		}
		for _, bad := range extremes() {
			for i := range 9 {
				wantNone(n, bad, i)
				wantNone(n, i, bad)
				wantNone(n, bad, bad)
				wantNone(bad, n, i)
				wantNone(bad, bad, bad)
				wantNone(bad, n, bad)
			}
		}
	}
}

// P63 and P64
func TestChoiceTakeOfTheAnswerIsTheThing(t *testing.T) {
	draw := draws(63)
	for _, d := range someDeals(draw) {
		n := len(d.Masks)
		for _, things := range someThings(draw, n) {
			for asked := range n {
				answer := choiceAnswer(t, d, things, asked)
				if want := answerReckoned(d.Masks, things, asked); !slices.Equal(answer, want) {
					t.Errorf("ChoiceAnswer(%v, %v, %d) is %v, not %v", d, things, asked, answer, want)
				}
				for i, want := range things {
					if got := choiceTake(t, answer, i, d.Masks[(i+asked)%n]); got != want {
						t.Errorf("ChoiceTake of %d of the answer %v to %d of %v is %d, not %d", i, answer, asked, d, got, want)
					}
				}
			}
		}
	}
}

// P64: of answers and masks of any kind.
func TestNumAddOfChoiceTakeAndTheMaskIsTheAnswer(t *testing.T) {
	draw := draws(64)
	for n := 2; n <= 8; n++ {
		for _, answer := range someThings(draw, n) {
			for choice := range n {
				for _, mask := range allNumbers() {
					if got := add(t, choiceTake(t, answer, choice, mask), mask); got != answer[choice] {
						t.Errorf("ChoiceTake(%v, %d, %d) and the mask are %d", answer, choice, mask, got)
					}
				}
			}
		}
	}
	for _, a := range allNumbers() {
		for _, mask := range allNumbers() {
			if got := choiceTake(t, []int{112 - a, a}, 1, mask); got != (a+113-mask)%113 {
				t.Errorf("ChoiceTake of %d with the mask %d is %d", a, mask, got)
			}
		}
	}
}

// P63: of deals that are not ok, of things that are not as many numbers, and of what is no index.
func TestChoiceAnswerIsToldJustOfThings(t *testing.T) {
	wantNone := func(d impl.Deal, things []int, asked int) {
		t.Helper()
		answer, ok := impl.ChoiceAnswer(d, things, asked)
		wantNoList(t, fmt.Sprintf("ChoiceAnswer(%v, %v, %d)", d, things, asked), answer, ok)
	}
	for _, bad := range notDeals() {
		for asked := range 3 {
			wantNone(bad, make([]int, len(bad.Masks)), asked)
			wantNone(bad, nil, asked)
			wantNone(bad, []int{1, 2}, asked)
		}
	}
	for _, d := range someDeals(draws(630)) {
		n := len(d.Masks)
		for _, bad := range append(notLists(n), nil, []int{1}, make([]int, 9)) {
			for asked := range n {
				wantNone(d, bad, asked)
			}
		}
		for _, bad := range notIndexes(n) {
			wantNone(d, make([]int, n), bad)
		}
	}
}

// P63: which place it is does not count for the answer.
func TestChoiceAnswerIsTheSameForEachPlace(t *testing.T) {
	draw := draws(631)
	for _, d := range someDeals(draw) {
		n := len(d.Masks)
		things := drawnList(draw, n)
		for asked := range n {
			want := choiceAnswer(t, d, things, asked)
			for place := range n {
				if got := choiceAnswer(t, impl.Deal{Masks: d.Masks, Place: place}, things, asked); !slices.Equal(got, want) {
					t.Errorf("ChoiceAnswer(%v, %v, %d) is %v, and %v for the place %d", d, things, asked, want, got, place)
				}
			}
		}
	}
}

// P64: of what is no answer, of a choice that is no index, and with a mask that is no number.
func TestChoiceTakeIsToldJustOfAnswers(t *testing.T) {
	wantNone := func(answer []int, choice, mask int) {
		t.Helper()
		thing, ok := impl.ChoiceTake(answer, choice, mask)
		wantNothing(t, fmt.Sprintf("ChoiceTake(%v, %d, %d)", answer, choice, mask), thing, ok)
	}
	for _, n := range []int{0, 1, 9, 10, 1000} {
		for choice := range 11 {
			wantNone(make([]int, n), choice, 0)
			wantNone(slices.Repeat([]int{5}, n), choice, 5)
		}
	}
	wantNone(nil, 0, 0)
	for n := 2; n <= 8; n++ {
		for _, bad := range notNumbers() {
			wantNone(make([]int, n), n-1, bad)
		}
		for _, bad := range notIndexes(n) {
			wantNone(make([]int, n), bad, 0)
		}
		for i := range n {
			for _, bad := range extremes() {
				answer := slices.Repeat([]int{1}, n)
				answer[i] = bad
				for choice := range n {
					wantNone(answer, choice, 3)
				}
			}
		}
	}
}

// P65: and of a deal with another place it is not.
func TestChoiceAskOfADealWithThisPlace(t *testing.T) {
	for n := 2; n <= 8; n++ {
		for choice := range n {
			for asked := range n {
				place := wantIndex(t, "ChoicePlace", impl.ChoicePlace(n, choice, asked), true, n)
				for other := range n {
					d := impl.Deal{Masks: make([]int, n), Place: other}
					if got := choiceAsk(t, d, choice); (got == asked) != (other == place) {
						t.Errorf("ChoiceAsk(%v, %d) is %d, and the place for %d is %d", d, choice, got, asked, place)
					}
				}
			}
		}
	}
}

// P66: and no masks but these have the answer, which go back by the same way.
func TestChoiceAnswerOfTheOthersIsThatOfTheThings(t *testing.T) {
	draw := draws(66)
	for _, d := range someDeals(draw) {
		n := len(d.Masks)
		for choice := range n {
			asked := choiceAsk(t, d, choice)
			for _, things := range someThings(draw, n)[:3] {
				answer := choiceAnswer(t, d, things, asked)
				for _, others := range someOthers(draw, things, choice) {
					masks := choiceMasks(t, d, choice, things, others)
					with := impl.Deal{Masks: masks, Place: d.Place}
					if got := choiceAnswer(t, with, others, asked); !slices.Equal(got, answer) || masks[d.Place] != d.Masks[d.Place] {
						t.Errorf("ChoiceMasks(%v, %d, %v, %v) is %v, with which the answer is %v, not %v", d, choice, things, others, masks, got, answer)
					}
					if back := choiceMasks(t, with, choice, others, things); !slices.Equal(back, d.Masks) {
						t.Errorf("ChoiceMasks goes from %v to %v and back to %v", d, with, back)
					}
					if slices.Equal(masks, d.Masks) != slices.Equal(things, others) {
						t.Errorf("ChoiceMasks(%v, %d, %v, %v) is %v", d, choice, things, others, masks)
					}
				}
			}
		}
	}
}

// P66: of deals that are not ok, of no index, of things that are not as many numbers, and of chosen ones that differ.
func TestChoiceMasksIsToldJustOfTheSameChoice(t *testing.T) {
	draw := draws(660)
	wantNone := func(d impl.Deal, choice int, things, others []int) {
		t.Helper()
		masks, ok := impl.ChoiceMasks(d, choice, things, others)
		wantNoList(t, fmt.Sprintf("ChoiceMasks(%v, %d, %v, %v)", d, choice, things, others), masks, ok)
	}
	for _, bad := range notDeals() {
		for choice := range 3 {
			wantNone(bad, choice, make([]int, len(bad.Masks)), make([]int, len(bad.Masks)))
			wantNone(bad, choice, []int{1, 2}, []int{1, 2})
			wantNone(bad, choice, nil, nil)
		}
	}
	for _, d := range someDeals(draw) {
		n := len(d.Masks)
		things := drawnList(draw, n)
		for _, bad := range notIndexes(n) {
			wantNone(d, bad, things, things)
		}
		for _, bad := range append(notLists(n), nil, []int{0}, make([]int, 9)) {
			for choice := range n {
				wantNone(d, choice, make([]int, n), bad)
				wantNone(d, choice, bad, make([]int, n))
				wantNone(d, choice, bad, bad)
			}
		}
		for choice := range n {
			for more := 1; more < 113; more++ {
				others := slices.Clone(things)
				others[choice] = (things[choice] + more) % 113
				wantNone(d, choice, things, others)
			}
		}
	}
}

// P67
func TestChoiceTakeOfWhatIsAnsweredToWhatIsAsked(t *testing.T) {
	draw := draws(67)
	for _, d := range someDeals(draw) {
		for choice := range d.Masks {
			for _, things := range someThings(draw, len(d.Masks)) {
				answer := choiceAnswer(t, d, things, choiceAsk(t, d, choice))
				if got := choiceTake(t, answer, choice, d.Masks[d.Place]); got != things[choice] {
					t.Errorf("of %v, chosen by %v, number %d is %d", things, d, choice, got)
				}
			}
		}
	}
}

// P61 to P67, with answers reckoned by hand.
func TestChoicesReckonedByHand(t *testing.T) {
	for _, c := range []struct {
		d                    impl.Deal
		choice               int
		things, others       []int
		asked                int
		wantAnswer, wantMask []int
	}{
		{impl.Deal{Masks: []int{10, 20, 30}, Place: 0}, 1, []int{1, 2, 3}, []int{5, 2, 112}, 2, []int{31, 12, 23}, []int{10, 24, 26}},
		{impl.Deal{Masks: []int{10, 20, 30}, Place: 2}, 1, []int{1, 2, 3}, []int{5, 2, 112}, 1, []int{21, 32, 13}, []int{14, 16, 30}},
		{impl.Deal{Masks: []int{112, 0}, Place: 1}, 1, []int{112, 1}, []int{0, 1}, 0, []int{111, 1}, []int{111, 0}},
		{impl.Deal{Masks: []int{1, 2, 3, 4, 5, 6, 7, 8}, Place: 0}, 7, []int{0, 0, 0, 0, 0, 0, 0, 112}, []int{1, 1, 1, 1, 1, 1, 1, 112}, 1, []int{2, 3, 4, 5, 6, 7, 8, 0}, []int{1, 1, 2, 3, 4, 5, 6, 7}},
	} {
		asked := choiceAsk(t, c.d, c.choice)
		answer, masks := choiceAnswer(t, c.d, c.things, c.asked), choiceMasks(t, c.d, c.choice, c.things, c.others)
		if asked != c.asked || !slices.Equal(answer, c.wantAnswer) || !slices.Equal(masks, c.wantMask) {
			t.Errorf("of %v and %v with %v, there are %d, %v and %v", c.d, c.things, c.others, asked, answer, masks)
		}
	}
	for _, c := range [][4]int{{2, 0, 0, 0}, {2, 1, 1, 0}, {3, 2, 2, 1}, {8, 7, 7, 6}, {8, 7, 1, 0}, {8, 0, 7, 7}} {
		if got := impl.ChoicePlace(c[0], c[1], c[2]); got != c[3] {
			t.Errorf("ChoicePlace(%d, %d, %d) is %d, not %d", c[0], c[1], c[2], got, c[3])
		}
	}
}

// wantChoicesKept fails the test if one of the functions does not keep the rules on memory. Each is called twice, so that both results are held against each other.
func wantChoicesKept(t *testing.T, d impl.Deal, choice int, things, others []int) {
	t.Helper()
	args := [][]int{d.Masks, things, others}
	for _, asked := range []int{0, choice, -1} {
		wantOwnMemory(t, "ChoiceAnswer", args, func() [][]int {
			first, _ := impl.ChoiceAnswer(d, things, asked)
			second, _ := impl.ChoiceAnswer(d, things, asked)
			return [][]int{first, second}
		})
	}
	wantOwnMemory(t, "ChoiceMasks", args, func() [][]int {
		first, _ := impl.ChoiceMasks(d, choice, things, others)
		second, _ := impl.ChoiceMasks(d, choice, things, others)
		return [][]int{first, second}
	})
	wantOwnMemory(t, "DealOk, ChoiceAsk and ChoiceTake", args, func() [][]int {
		impl.DealOk(d)
		asked, _ := impl.ChoiceAsk(d, choice)
		thing, _ := impl.ChoiceTake(things, choice, 5)
		return [][]int{{asked, thing}}
	})
}

// P61 to P67: the general rules on memory, also if several arguments are in the same memory.
func TestChoicesOwnTheirMemory(t *testing.T) {
	draw := draws(610)
	for _, d := range append(someDeals(draw), notDeals()[:30]...) {
		d.Masks = withSpare(d.Masks)
		n := len(d.Masks)
		for choice := range max(n, 1) % 9 {
			for _, things := range someThings(draw, n) {
				things = withSpare(things)
				for _, others := range [][]int{withSpare(things), make([]int, n), things, d.Masks, withSpare(d.Masks), nil} {
					wantChoicesKept(t, d, choice, things, others)
				}
			}
			wantChoicesKept(t, d, choice, d.Masks, d.Masks)
			wantChoicesKept(t, d, choice, nil, nil)
		}
	}
}

// P61 to P67: what was told before does not count, nor what is told at the same time.
func TestChoicesKeepNoState(t *testing.T) {
	var together sync.WaitGroup
	for part := range 4 {
		together.Add(1)
		go func() {
			defer together.Done()
			draw := draws(uint32(611 + part%2))
			list := someDeals(draw)
			var things, before [][]int
			for _, d := range list {
				things = append(things, drawnList(draw, len(d.Masks)))
				answer, _ := impl.ChoiceAnswer(d, things[len(things)-1], d.Place)
				before = append(before, answer)
				impl.ChoiceMasks(impl.Deal{}, -1, nil, nil)
			}
			for i := len(list) - 1; i >= 0; i-- {
				if answer, ok := impl.ChoiceAnswer(list[i], things[i], list[i].Place); !ok || !slices.Equal(answer, before[i]) {
					t.Errorf("ChoiceAnswer(%v, %v) is %v, and %v before", list[i], things[i], answer, before[i])
				}
			}
		}()
	}
	together.Wait()
}
