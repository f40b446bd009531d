package tests

import (
	"fmt"
	"slices"
	"sync"
	"testing"

	"loop.example/underveil/impl"
)

// someTables returns tables of each length from 1 to 16: zeros, the greatest numbers, and drawn ones.
func someTables(draw func(int) int) [][]int {
	var list [][]int
	for n := 1; n <= 16; n++ {
		list = append(list, make([]int, n), slices.Repeat([]int{112}, n), drawnList(draw, n), drawnPolynomial(draw, n))
	}
	return list
}

// notTables returns what are no tables: no entry, too many, or one that is no number.
func notTables() [][]int {
	list := [][]int{nil, {}, make([]int, 17), slices.Repeat([]int{112}, 17), slices.Repeat([]int{1}, 18), make([]int, 1000)}
	for n := 1; n <= 16; n++ {
		for i := range n {
			for _, bad := range extremes() {
				table := slices.Repeat([]int{1}, n)
				table[i] = bad
				list = append(list, table)
			}
		}
	}
	for _, bad := range notNumbers() {
		list = append(list, []int{bad}, []int{5, bad})
	}
	return list
}

// someSets returns sets of n truths: nothing, all, each one alone, all but each one, and drawn ones.
func someSets(draw func(int) int, n int) [][]bool {
	list := [][]bool{make([]bool, n), slices.Repeat([]bool{true}, n)}
	for i := range n {
		one := make([]bool, n)
		one[i] = true
		list = append(list, one, othersReckoned(one))
	}
	for range 4 {
		set := make([]bool, n)
		for i := range set {
			set[i] = draw(2) == 1
		}
		list = append(list, set)
	}
	return list
}

// notSets returns what are no sets of 1 to 16 truths.
func notSets() [][]bool {
	return [][]bool{nil, {}, make([]bool, 17), slices.Repeat([]bool{true}, 17), make([]bool, 18), slices.Repeat([]bool{true}, 1000)}
}

// notEntries returns what are no indexes of a table of n entries.
func notEntries(n int) []int {
	return append(extremes(), n, n+1, 16, 17, 20, -n, -n-1, -16)
}

// othersReckoned reckons the set of all that are not in a set.
func othersReckoned(set []bool) []bool {
	others := make([]bool, len(set))
	for i := range set {
		others[i] = !set[i]
	}
	return others
}

// sumReckoned reckons the sum of the entries in a set.
func sumReckoned(table []int, set []bool) int {
	sum := 0
	for i, in := range set {
		if in {
			sum += table[i]
		}
	}
	return sum % 113
}

// pointsReckoned returns the points that have a first X, those behind it, and the values of a list.
func pointsReckoned(first int, values []int) []impl.Point {
	list := make([]impl.Point, len(values))
	for i, a := range values {
		list[i] = impl.Point{X: first + i, Y: a}
	}
	return list
}

// asking is an index, how many servers are asked, and the tape.
type asking struct {
	index, n int
	tape     []int
}

// reckoned reckons what each server is asked.
func (a asking) reckoned() []int {
	asked := make([]int, a.n)
	for i := range asked {
		asked[i] = valueAt(append([]int{a.index}, a.tape...), i+1)
	}
	return asked
}

// someAskings returns askings of 1 to 20 servers by tapes of 0 to 7 numbers: zeros, the greatest numbers, ones that end with a 0, and drawn ones.
func someAskings(draw func(int) int) []asking {
	var list []asking
	for _, n := range []int{1, 2, 3, 7, 8, 19, 20} {
		for long := range 8 {
			ending := drawnList(draw, long)
			if long > 0 {
				ending[long-1] = 0
			}
			for _, tape := range [][]int{make([]int, long), slices.Repeat([]int{112}, long), ending, drawnList(draw, long), drawnList(draw, long)} {
				for _, index := range []int{0, 1, 15, draw(16)} {
					list = append(list, asking{index, n, tape})
				}
			}
		}
	}
	return list
}

func pairAsk(t *testing.T, set []bool, index int) ([]bool, []bool) {
	t.Helper()
	a, b, ok := impl.PairAsk(set, index)
	if !ok || len(a) != len(set) || len(b) != len(set) {
		t.Fatalf("PairAsk(%v, %d) is %v, %v, %v", set, index, a, b, ok)
	}
	return a, b
}

// wantNotAsked fails the test unless PairAsk tells nothing.
func wantNotAsked(t *testing.T, set []bool, index int) {
	t.Helper()
	a, b, ok := impl.PairAsk(set, index)
	if ok || len(a) != 0 || len(b) != 0 {
		t.Errorf("PairAsk(%v, %d) is %v, %v, %v, not nothing and false", set, index, a, b, ok)
	}
}

func pairAnswer(t *testing.T, table []int, set []bool) int {
	t.Helper()
	sum, ok := impl.PairAnswer(table, set)
	return wantNumber(t, fmt.Sprintf("PairAnswer(%v, %v)", table, set), sum, ok)
}

func pairTake(t *testing.T, set []bool, a, b, index int) int {
	t.Helper()
	entry, ok := impl.PairTake(set, a, b, index)
	return wantNumber(t, fmt.Sprintf("PairTake(%v, %d, %d, %d)", set, a, b, index), entry, ok)
}

func manyAsk(t *testing.T, a asking) []int {
	t.Helper()
	asked, ok := impl.ManyAsk(a.index, a.n, a.tape)
	return wantList(t, fmt.Sprintf("ManyAsk(%d, %d, %v)", a.index, a.n, a.tape), asked, ok, a.n)
}

func manyAnswer(t *testing.T, table []int, place int) int {
	t.Helper()
	value, ok := impl.ManyAnswer(table, place)
	return wantNumber(t, fmt.Sprintf("ManyAnswer(%v, %d)", table, place), value, ok)
}

func manyTake(t *testing.T, answers []int) int {
	t.Helper()
	entry, ok := impl.ManyTake(answers)
	return wantNumber(t, fmt.Sprintf("ManyTake(%v)", answers), entry, ok)
}

func manyExplain(t *testing.T, index int, list []impl.Point) []int {
	t.Helper()
	tape, ok := impl.ManyExplain(index, list)
	return wantList(t, fmt.Sprintf("ManyExplain(%d, %v)", index, list), tape, ok, len(list))
}

// manyAnswers returns what all servers that keep a table answer to what they are asked.
func manyAnswers(t *testing.T, table []int, a asking) []int {
	t.Helper()
	answers := manyAsk(t, a)
	for i, place := range answers {
		answers[i] = manyAnswer(t, table, place)
	}
	return answers
}

// P68
func TestManyAnswerIsToldAtZeroJustOfTables(t *testing.T) {
	for _, table := range someTables(draws(68)) {
		if got := manyAnswer(t, table, 0); got != table[0] || !impl.TableOk(table) {
			t.Errorf("ManyAnswer(%v, 0) is %d, or it is no table", table, got)
		}
	}
	for _, bad := range notTables() {
		if impl.TableOk(bad) {
			t.Errorf("TableOk(%v) is true", bad)
		}
		for _, place := range append(extremes(), 0, 1, 16, 112) {
			value, ok := impl.ManyAnswer(bad, place)
			wantNothing(t, fmt.Sprintf("ManyAnswer(%v, %d)", bad, place), value, ok)
		}
	}
}

// P68: each number may be an entry, at each index.
func TestTableOkOfEachEntry(t *testing.T) {
	for n := 1; n <= 16; n++ {
		for i := range n {
			for _, entry := range allNumbers() {
				table := make([]int, n)
				table[i] = entry
				if !impl.TableOk(table) || manyAnswer(t, table, i) != entry {
					t.Errorf("TableOk(%v) is false, or it has not the entry %d", table, entry)
				}
			}
		}
	}
}

// P69
func TestPairAskOfTheSecondSetIsBothExchanged(t *testing.T) {
	draw := draws(69)
	for n := 1; n <= 16; n++ {
		for _, set := range someSets(draw, n) {
			for index := range n {
				a, b := pairAsk(t, set, index)
				want := slices.Clone(set)
				want[index] = !set[index]
				if !slices.Equal(a, set) || !slices.Equal(b, want) {
					t.Errorf("PairAsk(%v, %d) is %v and %v", set, index, a, b)
				}
				if c, d := pairAsk(t, b, index); !slices.Equal(c, b) || !slices.Equal(d, a) {
					t.Errorf("PairAsk(%v, %d) is %v and %v, not both of %v exchanged", b, index, c, d, set)
				}
			}
		}
	}
}

// P69: of what is no set, and of what is no index of it.
func TestPairAskIsToldJustOfSets(t *testing.T) {
	for _, bad := range notSets() {
		for index := -1; index <= 18; index++ {
			wantNotAsked(t, bad, index)
		}
		for _, index := range append(extremes(), len(bad)-1, len(bad)) {
			wantNotAsked(t, bad, index)
		}
	}
	draw := draws(690)
	for n := 1; n <= 16; n++ {
		for _, set := range someSets(draw, n) {
			for _, bad := range notEntries(n) {
				wantNotAsked(t, set, bad)
			}
		}
	}
}

// P70
func TestPairAnswerOfASetAndAllOthers(t *testing.T) {
	draw := draws(70)
	for _, table := range someTables(draw) {
		n := len(table)
		all := pairAnswer(t, table, slices.Repeat([]bool{true}, n))
		if want := addedUp(table); all != want || pairAnswer(t, table, make([]bool, n)) != 0 {
			t.Errorf("PairAnswer of all of %v is %d, not %d, or of nothing not 0", table, all, want)
		}
		for _, set := range someSets(draw, n) {
			got := pairAnswer(t, table, set)
			if want := sumReckoned(table, set); got != want {
				t.Errorf("PairAnswer(%v, %v) is %d, not %d", table, set, got, want)
			}
			if others := pairAnswer(t, table, othersReckoned(set)); add(t, got, others) != all {
				t.Errorf("PairAnswer(%v, %v) is %d, %d of all others, and %d of all", table, set, got, others, all)
			}
		}
	}
}

// P70: of what is no table, and of a set that is not as long.
func TestPairAnswerIsToldJustOfTables(t *testing.T) {
	wantNone := func(table []int, set []bool) {
		t.Helper()
		sum, ok := impl.PairAnswer(table, set)
		wantNothing(t, fmt.Sprintf("PairAnswer(%v, %v)", table, set), sum, ok)
	}
	for _, bad := range notTables() {
		wantNone(bad, make([]bool, len(bad)))
		wantNone(bad, slices.Repeat([]bool{true}, len(bad)))
		wantNone(bad, nil)
		wantNone(bad, []bool{true})
	}
	for _, table := range someTables(draws(700)) {
		for long := range 20 {
			if long != len(table) {
				wantNone(table, make([]bool, long))
				wantNone(table, slices.Repeat([]bool{true}, long))
			}
		}
		wantNone(table, nil)
	}
}

// P71
func TestPairTakeOfBothSumsExchanged(t *testing.T) {
	draw := draws(71)
	for n := 1; n <= 16; n++ {
		for _, set := range someSets(draw, n) {
			for index := range n {
				for _, a := range edgeNumbers(draw) {
					for _, b := range edgeNumbers(draw) {
						wantTakenReckoned(t, set, a, b, index)
					}
				}
			}
		}
	}
	for _, a := range allNumbers() {
		for _, b := range allNumbers() {
			wantTakenReckoned(t, []bool{true}, a, b, 0)
			wantTakenReckoned(t, []bool{false}, a, b, 0)
		}
	}
}

// wantTakenReckoned fails the test unless PairTake is the difference of both sums: the first one minus the second one if the index is in the set, and else what added to that is 0.
func wantTakenReckoned(t *testing.T, set []bool, a, b, index int) {
	t.Helper()
	want, exchanged := (a+113-b)%113, (b+113-a)%113
	if !set[index] {
		want, exchanged = exchanged, want
	}
	got, back := pairTake(t, set, a, b, index), pairTake(t, set, b, a, index)
	if got != want || back != exchanged || add(t, got, back) != 0 {
		t.Errorf("PairTake of %d and %d is %d, not %d, and %d of both exchanged, for %d of %v", a, b, got, want, back, index, set)
	}
}

// P71: of what is no set, of what is no index of it, and of sums that are no numbers.
func TestPairTakeIsToldJustOfSums(t *testing.T) {
	wantNone := func(set []bool, a, b, index int) {
		t.Helper()
		entry, ok := impl.PairTake(set, a, b, index)
		wantNothing(t, fmt.Sprintf("PairTake(%v, %d, %d, %d)", set, a, b, index), entry, ok)
	}
	for _, bad := range notSets() {
		for _, index := range append(extremes(), 0, 1, 15, 16, 17, len(bad)-1, len(bad)) {
			wantNone(bad, 5, 3, index)
		}
	}
	draw := draws(710)
	for n := 1; n <= 16; n++ {
		for _, set := range someSets(draw, n) {
			for _, bad := range notEntries(n) {
				wantNone(set, 5, 3, bad)
			}
			for _, bad := range extremes() {
				for index := range n {
					wantNone(set, bad, 0, index)
					wantNone(set, 0, bad, index)
					wantNone(set, bad, bad, index)
				}
			}
		}
	}
	for _, bad := range notNumbers() {
		for _, set := range [][]bool{{true}, {false}} {
			wantNone(set, bad, 7, 0)
			wantNone(set, 7, bad, 0)
		}
	}
}

// P72
func TestPairTakeOfTheAnswersOfBothServersIsTheEntry(t *testing.T) {
	draw := draws(72)
	for _, table := range someTables(draw) {
		for _, set := range someSets(draw, len(table)) {
			for index, entry := range table {
				a, b := pairAsk(t, set, index)
				if got := pairTake(t, a, pairAnswer(t, table, a), pairAnswer(t, table, b), index); got != entry {
					t.Errorf("of %v, asked for by %v, entry %d is %d", table, set, index, got)
				}
			}
		}
	}
}

// P72: for tables of one entry and of two, each entry and each set.
func TestPairTakeOfEachEntry(t *testing.T) {
	for _, entry := range allNumbers() {
		for sets := range 4 {
			for index := range 2 {
				table := []int{37, 37}
				table[index] = entry
				for n := index + 1; n <= 2; n++ {
					a, b := pairAsk(t, []bool{sets&1 == 1, sets&2 == 2}[:n], index)
					if got := pairTake(t, a, pairAnswer(t, table[:n], a), pairAnswer(t, table[:n], b), index); got != entry {
						t.Errorf("of %v, asked for by %v, entry %d is %d", table[:n], a, index, got)
					}
				}
			}
		}
	}
}

// P73
func TestManyExplainOfTheFirstServersIsTheTape(t *testing.T) {
	draw := draws(73)
	for _, a := range someAskings(draw) {
		asked := manyAsk(t, a)
		if want := a.reckoned(); !slices.Equal(asked, want) {
			t.Errorf("ManyAsk(%d, %d, %v) is %v, not %v", a.index, a.n, a.tape, asked, want)
		}
		if a.n < len(a.tape) {
			continue
		}
		first := pointsReckoned(1, asked[:len(a.tape)])
		if got := manyExplain(t, a.index, first); !slices.Equal(got, a.tape) {
			t.Errorf("ManyExplain(%d, %v) is %v, not %v", a.index, first, got, a.tape)
		}
	}
}

// P73: by each number of a tape, for each index.
func TestManyAskByEachNumber(t *testing.T) {
	for index := range 16 {
		if got := manyAsk(t, asking{index, 20, nil}); !slices.Equal(got, slices.Repeat([]int{index}, 20)) {
			t.Errorf("ManyAsk(%d) by an empty tape is %v", index, got)
		}
		for _, a := range allNumbers() {
			for i := range 7 {
				tape := make([]int, 7)
				tape[i] = a
				one := asking{index, 20, tape}
				if got, want := manyAsk(t, one), one.reckoned(); !slices.Equal(got, want) {
					t.Errorf("ManyAsk of %v is %v, not %v", one, got, want)
				}
			}
		}
	}
}

// P73: by arguments that are not valid.
func TestManyAskIsToldJustOfAskings(t *testing.T) {
	wantNone := func(index, n int, tape []int) {
		t.Helper()
		asked, ok := impl.ManyAsk(index, n, tape)
		wantNoList(t, fmt.Sprintf("ManyAsk(%d, %d, %v)", index, n, tape), asked, ok)
	}
	for _, bad := range notEntries(16) {
		wantNone(bad, 1, nil)
		wantNone(bad, 20, []int{1, 2})
	}
	for _, bad := range append(extremes(), 0, 21, 22, 112, -20) {
		wantNone(0, bad, nil)
		wantNone(15, bad, []int{1, 2})
	}
	for _, long := range []int{8, 9, 20, 1000} {
		wantNone(3, 20, make([]int, long))
		wantNone(3, 1, slices.Repeat([]int{112}, long))
	}
	for long := 1; long <= 7; long++ {
		for i := range long {
			for _, bad := range notNumbers() {
				tape := slices.Repeat([]int{1}, long)
				tape[i] = bad
				wantNone(3, 20, tape)
				wantNone(3, 1, tape)
			}
		}
	}
}

// P74: at all other places, too, it is reckoned.
func TestManyAnswerAtAnIndexIsTheEntry(t *testing.T) {
	for _, table := range someTables(draws(74)) {
		points := pointsReckoned(0, table)
		for _, place := range allNumbers() {
			want := throughAt(points, place)
			if place < len(table) {
				want = table[place]
			}
			if got := manyAnswer(t, table, place); got != want {
				t.Errorf("ManyAnswer(%v, %d) is %d, not %d", table, place, got, want)
			}
		}
		for _, bad := range notNumbers() {
			value, ok := impl.ManyAnswer(table, bad)
			wantNothing(t, fmt.Sprintf("ManyAnswer(%v, %d)", table, bad), value, ok)
		}
	}
}

// P75
func TestManyTakeOfAllAnswersTwiceIsTwiceIt(t *testing.T) {
	draw := draws(75)
	for n := 1; n <= 20; n++ {
		list := [][]int{make([]int, n), slices.Repeat([]int{112}, n), slices.Repeat([]int{57}, n)}
		for range 40 {
			list = append(list, drawnList(draw, n))
		}
		for _, answers := range list {
			twice := slices.Clone(answers)
			for i := range twice {
				twice[i] = answers[i] * 2 % 113
			}
			got := manyTake(t, answers)
			if want := joinReckoned(pointsReckoned(1, answers)); got != want {
				t.Errorf("ManyTake(%v) is %d, not %d", answers, got, want)
			}
			if double := manyTake(t, twice); double != add(t, got, got) {
				t.Errorf("ManyTake(%v) is %d, and %d of them twice", answers, got, double)
			}
		}
	}
	for _, a := range allNumbers() {
		if one, same := manyTake(t, []int{a}), manyTake(t, slices.Repeat([]int{a}, 20)); one != a || same != a {
			t.Errorf("ManyTake of the answers %d is %d, and %d of twenty", a, one, same)
		}
	}
}

// P75: of no answers, too many, and what are no numbers.
func TestManyTakeIsToldJustOfAnswers(t *testing.T) {
	wantNone := func(answers []int) {
		t.Helper()
		entry, ok := impl.ManyTake(answers)
		wantNothing(t, fmt.Sprintf("ManyTake(%v)", answers), entry, ok)
	}
	wantNone(nil)
	wantNone([]int{})
	for _, n := range []int{21, 22, 112, 113, 114, 1000} {
		wantNone(make([]int, n))
		wantNone(slices.Repeat([]int{112}, n))
	}
	for n := 1; n <= 20; n++ {
		for i := range n {
			for _, bad := range extremes() {
				answers := slices.Repeat([]int{1}, n)
				answers[i] = bad
				wantNone(answers)
			}
		}
	}
	for _, bad := range notNumbers() {
		wantNone([]int{bad})
	}
}

// P76: of servers in any order. The numbers of servers may be above 20, too, as the sentence asks for numbers but 0.
func TestManyAskByManyExplainAsksTheseServersForThesePlaces(t *testing.T) {
	draw := draws(76)
	for n := range 8 {
		for _, most := range []int{7, 20, 112} {
			for range 60 {
				list, index := drawnShares(draw, n, most), draw(16)
				wantAsked(t, index, list)
				wantAsked(t, 15*draw(2), list)
			}
			zeros, greatest := drawnShares(draw, n, most), drawnShares(draw, n, most)
			for i := range n {
				zeros[i].Y, greatest[i].Y = 0, 112
			}
			for index := range 16 {
				wantAsked(t, index, zeros)
				wantAsked(t, index, greatest)
			}
			if tape := manyExplain(t, 0, zeros); !slices.Equal(tape, make([]int, n)) {
				t.Errorf("ManyExplain(0, %v) is %v", zeros, tape)
			}
		}
	}
}

// wantAsked fails the test unless ManyExplain is a tape by which servers are asked just for these places.
func wantAsked(t *testing.T, index int, list []impl.Point) {
	t.Helper()
	tape := manyExplain(t, index, list)
	asked := manyAsk(t, asking{index, 20, tape})
	for _, point := range list {
		got := valueAt(append([]int{index}, tape...), point.X)
		if got != point.Y || point.X <= 20 && asked[point.X-1] != point.Y {
			t.Errorf("ManyExplain(%d, %v) is %v, by which server %d is asked for %d", index, list, tape, point.X, got)
		}
	}
	if got := manyExplain(t, index, reversed(list)); !slices.Equal(got, tape) {
		t.Errorf("ManyExplain(%d, %v) is %v, and %v in the opposite order", index, list, tape, got)
	}
}

// P76: whatever a server is asked, there is for each index one tape of one number, and no other, by which it is asked that.
func TestOneTapeForEachIndex(t *testing.T) {
	for index := range 16 {
		for server := 1; server <= 20; server++ {
			seen := [113]int{}
			for _, a := range allNumbers() {
				place := manyAsk(t, asking{index, server, []int{a}})[server-1]
				seen[place]++
				if got := manyExplain(t, index, []impl.Point{{X: server, Y: place}}); got[0] != a {
					t.Errorf("ManyExplain(%d) of server %d with %d is %v, not %d", index, server, place, got, a)
				}
			}
			for place, n := range seen {
				if n != 1 {
					t.Errorf("by %d tapes server %d is asked for %d, if the index is %d", n, server, place, index)
				}
			}
		}
	}
}

// P76: of an index that is none, and of what are no points of servers.
func TestManyExplainIsToldJustOfServers(t *testing.T) {
	draw := draws(760)
	wantNone := func(index int, list []impl.Point) {
		t.Helper()
		tape, ok := impl.ManyExplain(index, list)
		wantNoList(t, fmt.Sprintf("ManyExplain(%d, %v)", index, list), tape, ok)
	}
	for _, bad := range notEntries(16) {
		wantNone(bad, nil)
		wantNone(bad, drawnShares(draw, 3, 20))
		wantNone(bad, drawnShares(draw, 7, 7))
	}
	for index := range 16 {
		for _, n := range []int{8, 9, 20, 21, 112} {
			wantNone(index, drawnShares(draw, n, 112))
		}
		wantNone(index, drawnShares(draw, 8, 8))
		wantNone(index, make([]impl.Point, 1000))
	}
	for n := 1; n <= 7; n++ {
		for i := range n {
			for _, bad := range append(extremes(), 0) {
				list := drawnShares(draw, n, 20)
				list[i].X = bad
				wantNone(draw(16), list)
			}
			for _, bad := range extremes() {
				list := drawnShares(draw, n, 20)
				list[i].Y = bad
				wantNone(draw(16), list)
			}
			for j := range i {
				list := drawnShares(draw, n, 20)
				list[i].X = list[j].X
				wantNone(draw(16), list)
				list[i].Y = list[j].Y
				wantNone(draw(16), list)
			}
		}
	}
	wantNone(0, []impl.Point{{X: 0, Y: 0}})
	wantNone(5, []impl.Point{{X: 0, Y: 5}, {X: 1, Y: 5}})
}

// P77
func TestManyTakeOfEnoughServersIsTheEntry(t *testing.T) {
	draw := draws(77)
	for _, table := range someTables(draw) {
		for long := range 8 {
			for n := long*(len(table)-1) + 1; n <= 20; n++ {
				for _, tape := range [][]int{make([]int, long), slices.Repeat([]int{112}, long), drawnList(draw, long)} {
					for index, entry := range table {
						a := asking{index, n, tape}
						if got := manyTake(t, manyAnswers(t, table, a)); got != entry {
							t.Errorf("of %v, asked for by %v, entry %d is %d", table, a, index, got)
						}
					}
				}
			}
		}
	}
}

// P77: with one server fewer, what is taken is reckoned, and not the entry if the degrees are as great as they may be.
func TestManyTakeOfOneServerFewerIsNotTheEntry(t *testing.T) {
	draw := draws(770)
	for _, table := range someTables(draw) {
		greatest := len(table) - 1
		full := greatest > 0 && throughAt(pointsReckoned(0, table[:greatest]), greatest) != table[greatest]
		for long := 1; long <= 7; long++ {
			n := long * greatest
			if n < 1 || n > 20 {
				continue
			}
			tape := drawnPolynomial(draw, long) // the last one is not 0
			for index, entry := range table {
				answers := manyAnswers(t, table, asking{index, n, tape})
				got := manyTake(t, answers)
				if want := joinReckoned(pointsReckoned(1, answers)); got != want || full && got == entry {
					t.Errorf("of %v, asked for by %v, entry %d is %d of %d servers", table, tape, index, got, n)
				}
			}
		}
	}
}

// P68 to P77, with answers reckoned by hand.
func TestLookupsReckonedByHand(t *testing.T) {
	a, b := pairAsk(t, []bool{true, false, true}, 2)
	if !slices.Equal(a, []bool{true, false, true}) || !slices.Equal(b, []bool{true, false, false}) {
		t.Errorf("PairAsk is %v and %v", a, b)
	}
	if x, y := pairAnswer(t, []int{100, 20, 50}, a), pairAnswer(t, []int{100, 20, 50}, b); x != 37 || y != 100 || pairTake(t, a, x, y, 2) != 50 {
		t.Errorf("PairAnswer is %d and %d", x, y)
	}
	for _, c := range []struct {
		table       []int
		place, want int
	}{
		{[]int{5, 9}, 0, 5}, {[]int{5, 9}, 2, 13}, {[]int{5, 9}, 112, 1}, // 5 + 4*x
		{[]int{0, 1, 4}, 10, 100}, {[]int{0, 1, 4}, 11, 8}, {[]int{0, 1, 4}, 112, 1}, // x*x
		{[]int{77}, 0, 77}, {[]int{77}, 112, 77},
	} {
		if got := manyAnswer(t, c.table, c.place); got != c.want {
			t.Errorf("ManyAnswer(%v, %d) is %d, not %d", c.table, c.place, got, c.want)
		}
	}
	if got := manyAsk(t, asking{1, 3, []int{2}}); !slices.Equal(got, []int{3, 5, 7}) {
		t.Errorf("ManyAsk(1, 3) by 2 is %v", got)
	}
	if got := manyAsk(t, asking{15, 4, []int{112, 1}}); !slices.Equal(got, []int{15, 17, 21, 27}) { // 15 - k + k*k
		t.Errorf("ManyAsk(15, 4) by 112 and 1 is %v", got)
	}
	if got := manyTake(t, []int{17, 25, 33}); got != 9 { // the entry 1 of 5 and 9, asked for at 3, 5 and 7
		t.Errorf("ManyTake of 17, 25 and 33 is %d", got)
	}
	if got := manyTake(t, []int{1, 4, 9}); got != 0 {
		t.Errorf("ManyTake of 1, 4 and 9 is %d", got)
	}
	if got := manyExplain(t, 15, []impl.Point{{X: 4, Y: 27}, {X: 1, Y: 15}}); !slices.Equal(got, []int{112, 1}) {
		t.Errorf("ManyExplain(15) of 27 and 15 is %v", got)
	}
}

// wantPairsKept fails the test if one of the functions for two servers does not keep the rules on memory. Each is called twice, so that both results are held against each other.
func wantPairsKept(t *testing.T, table []int, set []bool, index int) {
	t.Helper()
	for _, mark := range []bool{true, false} {
		wantOwnMemoryOf(t, "PairAsk", [][]bool{set}, mark, func() [][]bool {
			a, b, _ := impl.PairAsk(set, index)
			c, d, _ := impl.PairAsk(set, index)
			return [][]bool{a, b, c, d}
		})
	}
	told := func() [][]int {
		sum, _ := impl.PairAnswer(table, set)
		entry, _ := impl.PairTake(set, 5, 3, index)
		impl.TableOk(table)
		return [][]int{{sum, entry}}
	}
	wantOwnMemory(t, "PairAnswer", [][]int{table}, told)
	wantOwnMemoryOf(t, "PairAnswer and PairTake", [][]bool{set}, spare-1, told)
}

// P68 to P77: the general rules on memory.
func TestLookupsOwnTheirMemory(t *testing.T) {
	draw := draws(680)
	for _, table := range append(someTables(draw), notTables()[:30]...) {
		table = withSpare(table)
		for _, set := range someSets(draw, len(table)) {
			for _, behind := range []bool{true, false} {
				room := withRoom(set, behind)
				wantPairsKept(t, table, room, len(set)/2)
				wantPairsKept(t, table, room, len(set)-1)
				wantPairsKept(t, table, room, len(set))
			}
		}
		wantOwnMemory(t, "ManyAnswer and ManyTake", [][]int{table}, func() [][]int {
			value, _ := impl.ManyAnswer(table, 100)
			entry, _ := impl.ManyTake(table)
			return [][]int{{value, entry}}
		})
	}
	for _, a := range append(someAskings(draw), asking{16, 3, []int{1}}, asking{3, 21, []int{1}}, asking{3, 3, []int{1, 113}}) {
		tape := withSpare(a.tape)
		wantOwnMemory(t, "ManyAsk", [][]int{tape}, func() [][]int {
			first, _ := impl.ManyAsk(a.index, a.n, tape)
			second, _ := impl.ManyAsk(a.index, a.n, tape)
			return [][]int{first, second}
		})
	}
	for n := range 10 {
		list := withRoom(drawnShares(draw, n, 20), impl.Point{X: spare, Y: spare})
		wantOwnMemoryOf(t, "ManyExplain", [][]impl.Point{list}, spare-1, func() [][]int {
			first, _ := impl.ManyExplain(5, list)
			second, _ := impl.ManyExplain(5, list)
			return [][]int{first, second}
		})
	}
}

// lookedUp is what a table tells, by both kinds of servers, and how it was asked.
func lookedUp(table []int, set []bool, a asking) []int {
	index := a.index % max(len(table), 1)
	one, other, _ := impl.PairAsk(set, index)
	x, _ := impl.PairAnswer(table, one)
	y, _ := impl.PairAnswer(table, other)
	entry, _ := impl.PairTake(one, x, y, index)
	asked, _ := impl.ManyAsk(index, a.n, a.tape)
	answers := make([]int, len(asked))
	for i, place := range asked {
		answers[i], _ = impl.ManyAnswer(table, place)
	}
	value, _ := impl.ManyTake(answers)
	tape, _ := impl.ManyExplain(index, pointsReckoned(1, asked[:min(len(asked), 7)]))
	return slices.Concat([]int{x, y, entry, value}, asked, answers, tape)
}

// P68 to P77: what was told before does not count, nor what is told at the same time.
func TestLookupsKeepNoState(t *testing.T) {
	var together sync.WaitGroup
	for part := range 4 {
		together.Add(1)
		go func() {
			defer together.Done()
			draw := draws(uint32(681 + part%2))
			tables, askings := someTables(draw), someAskings(draw)
			var before [][]int
			for i, table := range tables {
				before = append(before, lookedUp(table, someSets(draws(uint32(i)), len(table))[i%4], askings[i]))
				lookedUp(nil, nil, asking{-1, 0, []int{113}})
			}
			for i := len(tables) - 1; i >= 0; i-- {
				if again := lookedUp(tables[i], someSets(draws(uint32(i)), len(tables[i]))[i%4], askings[i]); !slices.Equal(again, before[i]) {
					t.Errorf("of %v, asked for by %v, there is %v, and %v before", tables[i], askings[i], again, before[i])
				}
			}
		}()
	}
	together.Wait()
}
