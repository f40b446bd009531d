package tests

import (
	"fmt"
	"slices"
	"sync"
	"testing"

	"loop.example/underveil/impl"
)

// marking is a number, a key, how many parties there are, and the tape by which they get the number and its mark.
type marking struct {
	value, key, n int
	tape          []int
}

// reckoned reckons what the parties have: all but the first one their numbers of the tape, and the first one what is missing.
func (m marking) reckoned() impl.Marked {
	x := impl.Marked{Value: make([]int, m.n), Mark: make([]int, m.n)}
	x.Value[0], x.Mark[0] = m.value, m.value*m.key
	for i := 1; i < m.n; i++ {
		x.Value[i], x.Mark[i] = m.tape[i-1], m.tape[m.n+i-2]
		x.Value[0] += 113 - x.Value[i]
		x.Mark[0] += 113 - x.Mark[i]
	}
	x.Value[0] %= 113
	x.Mark[0] %= 113
	return x
}

// edgeNumbers returns the least and the greatest numbers, and drawn ones.
func edgeNumbers(draw func(int) int) []int {
	return []int{0, 1, 111, 112, draw(113), draw(113)}
}

// someMarkings returns markings for each number of parties, with numbers and keys at the edges and drawn ones, by tapes of zeros, of the greatest numbers, and drawn ones.
func someMarkings(draw func(int) int) []marking {
	var list []marking
	for n := 2; n <= 7; n++ {
		long := 2 * (n - 1)
		for _, value := range edgeNumbers(draw) {
			for _, key := range edgeNumbers(draw) {
				for _, tape := range [][]int{make([]int, long), slices.Repeat([]int{112}, long), drawnList(draw, long), drawnList(draw, long)} {
					list = append(list, marking{value, key, n, tape})
				}
			}
		}
	}
	return list
}

// marked returns a number that n parties have with its mark for a key, by a drawn tape.
func marked(draw func(int) int, value, key, n int) impl.Marked {
	return marking{value, key, n, drawnList(draw, 2*(n-1))}.reckoned()
}

// keyShares returns n numbers that add up to a key, all drawn but one.
func keyShares(draw func(int) int, key, n int) []int {
	list := drawnList(draw, n)
	i := draw(n)
	list[i] = 0
	list[i] = (key + 113 - addedUp(list)) % 113
	return list
}

// someMarked returns what is ok, of n parties: zeros, the greatest numbers, what has a mark for a key, and values and marks that have nothing to do with each other.
func someMarked(draw func(int) int, n int) []impl.Marked {
	list := []impl.Marked{
		{Value: make([]int, n), Mark: make([]int, n)},
		{Value: slices.Repeat([]int{112}, n), Mark: slices.Repeat([]int{112}, n)},
		{Value: make([]int, n), Mark: slices.Repeat([]int{112}, n)},
		{Value: slices.Repeat([]int{112}, n), Mark: make([]int, n)},
		{Value: drawnList(draw, n), Mark: drawnList(draw, n)},
		{Value: drawnList(draw, n), Mark: drawnList(draw, n)},
		marked(draw, 0, draw(113), n),
	}
	for _, key := range edgeNumbers(draw) {
		list = append(list, marked(draw, draw(113), key, n))
	}
	return list
}

// notMarked returns what is not ok: too few or too many parties, values and marks that are not as many, or one that is no number. Else it would be of n parties.
func notMarked(n int) []impl.Marked {
	ones := func(values, marks int) impl.Marked {
		return impl.Marked{Value: slices.Repeat([]int{1}, values), Mark: slices.Repeat([]int{1}, marks)}
	}
	list := []impl.Marked{{}, {Value: []int{}, Mark: []int{}}, {Value: make([]int, n)}, {Mark: make([]int, n)}, ones(1, 1), ones(8, 8), ones(9, 9), ones(1000, 1000),
		ones(n, 0), ones(0, n), ones(n, n-1), ones(n, n+1), ones(n-1, n), ones(n+1, n), ones(n, 1), ones(1, n), ones(n, 8), ones(8, n), ones(n, 1000)}
	for i := range n {
		for _, bad := range extremes() {
			value, mark := ones(n, n), ones(n, n)
			value.Value[i], mark.Mark[i] = bad, bad
			list = append(list, value, mark)
		}
	}
	return list
}

// notKeys returns what are no shares of a key for n parties.
func notKeys(n int) [][]int {
	return append(notLists(n), nil, []int{}, []int{1}, make([]int, n-1), make([]int, n+1), make([]int, 8))
}

// addedUp reckons what numbers add up to.
func addedUp(list []int) int {
	sum := 0
	for _, a := range list {
		sum += a
	}
	return sum % 113
}

// checkReckoned reckons whether the marks of what is ok fit a key.
func checkReckoned(x impl.Marked, key int) bool {
	return addedUp(x.Mark) == addedUp(x.Value)*key%113
}

// term is something with a mark, and how often it counts.
type term struct {
	x  impl.Marked
	by int
}

// termsReckoned reckons the sum of terms, party by party.
func termsReckoned(terms ...term) impl.Marked {
	n := len(terms[0].x.Value)
	sum := impl.Marked{Value: make([]int, n), Mark: make([]int, n)}
	for _, each := range terms {
		for i := range n {
			sum.Value[i] = (sum.Value[i] + each.x.Value[i]*each.by) % 113
			sum.Mark[i] = (sum.Mark[i] + each.x.Mark[i]*each.by) % 113
		}
	}
	return sum
}

// shiftReckoned reckons x with a number added: the first party's value has it, and each party's mark its share of the key as often.
func shiftReckoned(x impl.Marked, by int, key []int) impl.Marked {
	x = termsReckoned(term{x, 1})
	x.Value[0] = (x.Value[0] + by) % 113
	for i := range key {
		x.Mark[i] = (x.Mark[i] + key[i]*by) % 113
	}
	return x
}

// multiplying is what MarkedProduct takes.
type multiplying struct {
	x, y, a, b, ab impl.Marked
	key            []int
}

// told is what MarkedProduct tells.
func (m multiplying) told() (impl.Marked, bool) {
	return impl.MarkedProduct(m.x, m.y, m.a, m.b, m.ab, m.key)
}

// reckoned reckons the product.
func (m multiplying) reckoned() impl.Marked {
	d := (addedUp(m.x.Value) + 113 - addedUp(m.a.Value)) % 113
	e := (addedUp(m.y.Value) + 113 - addedUp(m.b.Value)) % 113
	return shiftReckoned(termsReckoned(term{m.ab, 1}, term{m.b, d}, term{m.a, e}), d*e%113, m.key)
}

func sameMarked(x, y impl.Marked) bool {
	return slices.Equal(x.Value, y.Value) && slices.Equal(x.Mark, y.Mark)
}

// wantMarked fails the test unless a result is as it is reckoned, and true.
func wantMarked(t *testing.T, name string, got impl.Marked, ok bool, want impl.Marked) {
	t.Helper()
	if !ok || !sameMarked(got, want) || !impl.MarkedOk(got) {
		t.Fatalf("%s is %v, %v, not %v", name, got, ok, want)
	}
}

// wantNotMarked fails the test unless a result is nothing and false.
func wantNotMarked(t *testing.T, name string, got impl.Marked, ok bool) {
	t.Helper()
	if ok || len(got.Value) != 0 || len(got.Mark) != 0 {
		t.Errorf("%s is %v, %v, not nothing and false", name, got, ok)
	}
}

func markedMake(t *testing.T, m marking) impl.Marked {
	t.Helper()
	x, ok := impl.MarkedMake(m.value, m.key, m.n, m.tape)
	wantMarked(t, fmt.Sprintf("MarkedMake of %v", m), x, ok, m.reckoned())
	return x
}

func markedSum(t *testing.T, x impl.Marked) int {
	t.Helper()
	sum, ok := impl.MarkedSum(x)
	return wantNumber(t, "MarkedSum", sum, ok)
}

func markedAdd(t *testing.T, x, y impl.Marked) impl.Marked {
	t.Helper()
	sum, ok := impl.MarkedAdd(x, y)
	wantMarked(t, fmt.Sprintf("MarkedAdd(%v, %v)", x, y), sum, ok, termsReckoned(term{x, 1}, term{y, 1}))
	return sum
}

func markedScale(t *testing.T, x impl.Marked, by int) impl.Marked {
	t.Helper()
	scaled, ok := impl.MarkedScale(x, by)
	wantMarked(t, fmt.Sprintf("MarkedScale(%v, %d)", x, by), scaled, ok, termsReckoned(term{x, by}))
	return scaled
}

func markedShift(t *testing.T, x impl.Marked, by int, key []int) impl.Marked {
	t.Helper()
	shifted, ok := impl.MarkedShift(x, by, key)
	wantMarked(t, fmt.Sprintf("MarkedShift(%v, %d, %v)", x, by, key), shifted, ok, shiftReckoned(x, by, key))
	return shifted
}

func markedProduct(t *testing.T, m multiplying) impl.Marked {
	t.Helper()
	product, ok := m.told()
	wantMarked(t, fmt.Sprintf("MarkedProduct of %v", m), product, ok, m.reckoned())
	return product
}

// wantChecked fails the test unless a sum is a number, and the marks fit a key.
func wantChecked(t *testing.T, name string, x impl.Marked, sum, key int) {
	t.Helper()
	if got := markedSum(t, x); got != sum || !impl.MarkedCheck(x, key) {
		t.Errorf("%s is %v: its sum is %d, not %d, or its marks do not fit the key %d", name, x, got, sum, key)
	}
}

// P53
func TestMarkedSumOfMarkedMakeIsTheNumber(t *testing.T) {
	draw := draws(53)
	for _, m := range someMarkings(draw) {
		wantChecked(t, "MarkedMake", markedMake(t, m), m.value, m.key)
	}
	for _, value := range allNumbers() {
		for _, key := range allNumbers() {
			n := 2 + (value+key)%6
			m := marking{value, key, n, drawnList(draw, 2*(n-1))}
			wantChecked(t, "MarkedMake", markedMake(t, m), value, key)
		}
	}
}

// P53, with answers reckoned by hand.
func TestMarkedMakeReckonedByHand(t *testing.T) {
	for _, c := range []struct {
		marking
		want impl.Marked
	}{
		{marking{5, 7, 2, []int{1, 2}}, impl.Marked{Value: []int{4, 1}, Mark: []int{33, 2}}},
		{marking{1, 50, 4, []int{1, 2, 3, 4, 5, 6}}, impl.Marked{Value: []int{108, 1, 2, 3}, Mark: []int{35, 4, 5, 6}}},
		{marking{112, 112, 3, []int{112, 112, 112, 112}}, impl.Marked{Value: []int{1, 112, 112}, Mark: []int{3, 112, 112}}},
		{marking{0, 112, 2, []int{1, 1}}, impl.Marked{Value: []int{112, 1}, Mark: []int{112, 1}}},
		{marking{112, 0, 2, []int{0, 0}}, impl.Marked{Value: []int{112, 0}, Mark: []int{0, 0}}},
		{marking{3, 4, 7, make([]int, 12)}, impl.Marked{Value: []int{3, 0, 0, 0, 0, 0, 0}, Mark: []int{12, 0, 0, 0, 0, 0, 0}}},
	} {
		if got := markedMake(t, c.marking); !sameMarked(got, c.want) {
			t.Errorf("MarkedMake of %v is %v, not %v", c.marking, got, c.want)
		}
	}
}

// P53: of a number and a key that are none, of too few or too many parties, and by tapes that are none for them.
func TestMarkedMakeIsToldJustOfMarkings(t *testing.T) {
	wantNone := func(value, key, n int, tape []int) {
		t.Helper()
		x, ok := impl.MarkedMake(value, key, n, tape)
		wantNotMarked(t, fmt.Sprintf("MarkedMake(%d, %d, %d, %v)", value, key, n, tape), x, ok)
	}
	for n := 2; n <= 7; n++ {
		tape := slices.Repeat([]int{1}, 2*(n-1))
		for _, bad := range notNumbers() {
			wantNone(bad, 7, n, tape)
			wantNone(7, bad, n, tape)
			wantNone(bad, bad, n, tape)
			wantNone(bad, 0, n, tape)
			wantNone(0, bad, n, tape)
		}
		for _, bad := range notLists(2 * (n - 1)) {
			wantNone(5, 7, n, bad)
		}
		for length := range 20 {
			if length != 2*(n-1) {
				wantNone(5, 7, n, make([]int, length))
			}
		}
	}
	for _, n := range append(extremes(), 0, 1, 8, 9, 14, 112, -1<<62, 1<<62, 1<<62+1, 1<<62+2) { // of some of which twice n overflows
		for length := range 20 {
			wantNone(5, 7, n, make([]int, length))
		}
		wantNone(5, 7, n, nil)
		wantNone(5, 7, n, make([]int, 222))
	}
}

// P54
func TestMarkedSumIsToldJustOfWhatIsOk(t *testing.T) {
	draw := draws(54)
	for n := 2; n <= 7; n++ {
		for _, x := range someMarked(draw, n) {
			if got, want := markedSum(t, x), addedUp(x.Value); got != want || !impl.MarkedOk(x) {
				t.Errorf("MarkedSum(%v) is %d, not %d, or it is not ok", x, got, want)
			}
		}
		for _, bad := range notMarked(n) {
			sum, ok := impl.MarkedSum(bad)
			wantNothing(t, fmt.Sprintf("MarkedSum(%v)", bad), sum, ok)
			if impl.MarkedOk(bad) {
				t.Errorf("MarkedOk(%v) is true", bad)
			}
			for key := range 113 {
				if impl.MarkedCheck(bad, key) {
					t.Errorf("MarkedCheck(%v, %d) is true", bad, key)
				}
			}
		}
	}
}

// P54: each number that is one of the values or marks is ok.
func TestMarkedOkOfEachNumber(t *testing.T) {
	for n := 2; n <= 7; n++ {
		for i := range n {
			for _, a := range allNumbers() {
				x := impl.Marked{Value: make([]int, n), Mark: make([]int, n)}
				x.Value[i], x.Mark[n-1-i] = a, 112-a
				if !impl.MarkedOk(x) || markedSum(t, x) != a {
					t.Errorf("%v is not ok, or its sum is not %d", x, a)
				}
			}
		}
	}
}

// P53 and P56: whatever the values and marks are, and of keys that are no numbers.
func TestMarkedCheckOfEachKey(t *testing.T) {
	draw := draws(560)
	for n := 2; n <= 7; n++ {
		for _, x := range someMarked(draw, n) {
			for _, key := range allNumbers() {
				if got, want := impl.MarkedCheck(x, key), checkReckoned(x, key); got != want {
					t.Errorf("MarkedCheck(%v, %d) is %v", x, key, got)
				}
			}
			for _, bad := range notNumbers() {
				if impl.MarkedCheck(x, bad) {
					t.Errorf("MarkedCheck(%v, %d) is true", x, bad)
				}
			}
		}
	}
}

// P55
func TestMarkedSumOfMarkedAddOfItAndItself(t *testing.T) {
	draw := draws(55)
	for n := 2; n <= 7; n++ {
		for _, x := range someMarked(draw, n) {
			if got, want := markedSum(t, markedAdd(t, x, x)), add(t, markedSum(t, x), markedSum(t, x)); got != want {
				t.Errorf("MarkedSum of MarkedAdd of %v and itself is %d, not %d", x, got, want)
			}
		}
	}
}

// P56
func TestOneKeyFitsAValueThatIsChanged(t *testing.T) {
	for _, m := range someMarkings(draws(56)) {
		x := markedMake(t, m)
		for i := range x.Value {
			changed := impl.Marked{Value: slices.Clone(x.Value), Mark: x.Mark}
			changed.Value[i] = (x.Value[i] + 1) % 113
			var fitting []int
			for _, key := range allNumbers() {
				if impl.MarkedCheck(changed, key) {
					fitting = append(fitting, key)
				}
			}
			sum := markedSum(t, changed)
			if sum != (m.value+1)%113 {
				t.Errorf("the sum of %v is %d, of which a value is one more than in %v", changed, sum, x)
			}
			if sum != 0 && (len(fitting) != 1 || fitting[0]*sum%113 != m.value*m.key%113) {
				t.Errorf("of %v with a value of party %d one more, the marks fit the keys %v", m, i+1, fitting)
			}
			if sum == 0 && m.key == 0 && len(fitting) != 113 || sum == 0 && m.key != 0 && len(fitting) != 0 {
				t.Errorf("of %v with the sum 0 the marks fit the keys %v", changed, fitting)
			}
		}
	}
}

// P56: a value is changed, and its mark with it, or a mark alone: it is noticed, unless the mark's change is that of the value times the key.
func TestWhatIsChangedIsNoticed(t *testing.T) {
	draw := draws(561)
	for n := 2; n <= 7; n++ {
		for _, key := range []int{0, 1, 112, draw(113)} {
			m := marking{draw(113), key, n, drawnList(draw, 2*(n-1))}
			x := markedMake(t, m)
			who, other := draw(n), draw(n)
			for _, change := range allNumbers() {
				for _, with := range allNumbers() {
					changed := impl.Marked{Value: slices.Clone(x.Value), Mark: slices.Clone(x.Mark)}
					changed.Value[who] = (x.Value[who] + change) % 113
					changed.Mark[other] = (x.Mark[other] + with) % 113
					if got, want := impl.MarkedCheck(changed, key), with == change*key%113; got != want {
						t.Errorf("MarkedCheck(%v, %d) is %v, which was %v", changed, key, got, x)
					}
				}
			}
		}
	}
}

// P57
func TestMarkedAddOfBoth(t *testing.T) {
	draw := draws(57)
	for _, m := range someMarkings(draw) {
		x := markedMake(t, m)
		for _, value := range edgeNumbers(draw) {
			y := markedMake(t, marking{value, m.key, m.n, drawnList(draw, 2*(m.n-1))})
			sum := markedAdd(t, x, y)
			wantChecked(t, "MarkedAdd", sum, (m.value+value)%113, m.key)
			if again := markedAdd(t, y, x); !sameMarked(again, sum) {
				t.Errorf("MarkedAdd of %v and %v is %v, and the other way round %v", x, y, sum, again)
			}
		}
	}
	for n := 2; n <= 7; n++ { // it is told, too, if the marks fit no key
		for _, x := range someMarked(draw, n) {
			for _, y := range someMarked(draw, n) {
				markedAdd(t, x, y)
			}
		}
	}
}

// P57: of what is not ok, and of different numbers of parties.
func TestMarkedAddIsToldJustOfAsManyParties(t *testing.T) {
	draw := draws(570)
	wantNone := func(x, y impl.Marked) {
		t.Helper()
		sum, ok := impl.MarkedAdd(x, y)
		wantNotMarked(t, fmt.Sprintf("MarkedAdd(%v, %v)", x, y), sum, ok)
	}
	for n := 2; n <= 7; n++ {
		x := marked(draw, 5, 7, n)
		for _, bad := range notMarked(n) {
			wantNone(x, bad)
			wantNone(bad, x)
			wantNone(bad, bad)
		}
		for other := 2; other <= 7; other++ {
			if other != n {
				wantNone(x, marked(draw, 5, 7, other))
				wantNone(impl.Marked{Value: make([]int, n), Mark: make([]int, n)}, impl.Marked{Value: make([]int, other), Mark: make([]int, other)})
			}
		}
	}
}

// P58
func TestMarkedScaleIsTheProductWithANumber(t *testing.T) {
	draw := draws(58)
	for _, m := range someMarkings(draw) {
		x := markedMake(t, m)
		for _, by := range edgeNumbers(draw) {
			wantChecked(t, "MarkedScale", markedScale(t, x, by), m.value*by%113, m.key)
		}
	}
	for n := 2; n <= 7; n++ {
		for _, x := range someMarked(draw, n) {
			for _, by := range allNumbers() {
				markedScale(t, x, by)
			}
		}
	}
}

// P58: of what is not ok, and by what is no number.
func TestMarkedScaleIsToldJustOfNumbers(t *testing.T) {
	wantNone := func(x impl.Marked, by int) {
		t.Helper()
		scaled, ok := impl.MarkedScale(x, by)
		wantNotMarked(t, fmt.Sprintf("MarkedScale(%v, %d)", x, by), scaled, ok)
	}
	for n := 2; n <= 7; n++ {
		for _, bad := range notNumbers() {
			wantNone(impl.Marked{Value: make([]int, n), Mark: make([]int, n)}, bad)
			wantNone(marked(draws(580), 5, 7, n), bad)
		}
		for _, bad := range notMarked(n) {
			for _, by := range []int{0, 1, 112, 113, -1} {
				wantNone(bad, by)
			}
		}
	}
}

// P59
func TestMarkedShiftIsTheNumberMore(t *testing.T) {
	draw := draws(59)
	for _, m := range someMarkings(draw) {
		x := markedMake(t, m)
		for _, by := range edgeNumbers(draw) {
			wantChecked(t, "MarkedShift", markedShift(t, x, by, keyShares(draw, m.key, m.n)), (m.value+by)%113, m.key)
		}
	}
	for n := 2; n <= 7; n++ { // it is told, too, if the marks do not fit the key
		for _, x := range someMarked(draw, n) {
			for _, key := range [][]int{make([]int, n), slices.Repeat([]int{112}, n), drawnList(draw, n)} {
				for _, by := range allNumbers() {
					markedShift(t, x, by, key)
				}
			}
		}
	}
}

// P59, with an answer reckoned by hand.
func TestMarkedShiftReckonedByHand(t *testing.T) {
	x := impl.Marked{Value: []int{4, 1}, Mark: []int{33, 2}}
	want := impl.Marked{Value: []int{7, 1}, Mark: []int{45, 11}}
	if got := markedShift(t, x, 3, []int{4, 3}); !sameMarked(got, want) {
		t.Errorf("MarkedShift(%v, 3) is %v, not %v", x, got, want)
	}
}

// P59: of what is not ok, by what is no number, and with shares of the key that are too few, too many, or none numbers.
func TestMarkedShiftIsToldJustOfKeys(t *testing.T) {
	wantNone := func(x impl.Marked, by int, key []int) {
		t.Helper()
		shifted, ok := impl.MarkedShift(x, by, key)
		wantNotMarked(t, fmt.Sprintf("MarkedShift(%v, %d, %v)", x, by, key), shifted, ok)
	}
	for n := 2; n <= 7; n++ {
		x := marked(draws(590), 5, 7, n)
		for _, bad := range notNumbers() {
			wantNone(x, bad, make([]int, n))
		}
		for _, bad := range notKeys(n) {
			for _, by := range []int{0, 3, 112} {
				wantNone(x, by, bad)
			}
		}
		for _, bad := range notMarked(n) {
			for _, by := range []int{0, 3} {
				wantNone(bad, by, make([]int, n))
				wantNone(bad, by, make([]int, len(bad.Value)))
				wantNone(bad, by, make([]int, len(bad.Mark)))
				wantNone(bad, by, nil)
			}
		}
	}
}

// drawnMultiplying returns two numbers with a right triple, all with marks for a key.
func drawnMultiplying(draw func(int) int, x, y, a, b, key, n int) multiplying {
	each := func(value int) impl.Marked { return marked(draw, value, key, n) }
	return multiplying{each(x), each(y), each(a), each(b), each(a * b % 113), keyShares(draw, key, n)}
}

// P60
func TestMarkedProductIsTheProduct(t *testing.T) {
	draw := draws(60)
	for n := 2; n <= 7; n++ {
		for _, x := range edgeNumbers(draw) {
			for _, y := range edgeNumbers(draw) {
				for _, a := range []int{0, 1, 112, draw(113)} {
					for _, b := range []int{0, 1, 112, draw(113)} {
						key := []int{0, 1, 112, draw(113)}[draw(4)]
						wantChecked(t, "MarkedProduct", markedProduct(t, drawnMultiplying(draw, x, y, a, b, key, n)), x*y%113, key)
					}
				}
			}
		}
		for x := range 113 {
			y := draw(113)
			m := drawnMultiplying(draw, x, y, draw(113), draw(113), 50, n)
			wantChecked(t, "MarkedProduct", markedProduct(t, m), x*y%113, 50)
			m.y = m.x // one with itself
			wantChecked(t, "MarkedProduct", markedProduct(t, m), x*x%113, 50)
			square := drawnMultiplying(draw, x, x, x, x, 50, n)
			m = multiplying{square.x, square.x, square.x, square.x, square.ab, square.key}
			wantChecked(t, "MarkedProduct", markedProduct(t, m), x*x%113, 50)
		}
	}
}

// P60, with answers reckoned by hand.
func TestMarkedProductReckonedByHand(t *testing.T) {
	x := impl.Marked{Value: []int{4, 1}, Mark: []int{33, 2}}      // 5 for the key 7
	y := impl.Marked{Value: []int{1, 2}, Mark: []int{20, 1}}      // 3
	a := impl.Marked{Value: []int{1, 1}, Mark: []int{10, 4}}      // 2
	b := impl.Marked{Value: []int{112, 2}, Mark: []int{3, 4}}     // 1
	ab := impl.Marked{Value: []int{0, 2}, Mark: []int{13, 1}}     // 2
	want := impl.Marked{Value: []int{5, 10}, Mark: []int{66, 39}} // d is 3 and e is 2
	got := markedProduct(t, multiplying{x, y, a, b, ab, []int{4, 3}})
	if !sameMarked(got, want) {
		t.Errorf("MarkedProduct is %v, not %v", got, want)
	}
	wantChecked(t, "MarkedProduct", got, 15, 7)
}

// P60: if ab is not the product of a and b, the product is as much more; if a mark does not fit, the product's does not, unless it does not count.
func TestMarkedProductByATripleThatIsNotRight(t *testing.T) {
	draw := draws(600)
	for n := 2; n <= 7; n++ {
		for more := 1; more < 113; more++ {
			x, y, key := draw(113), draw(113), draw(113)
			m := drawnMultiplying(draw, x, y, draw(113), draw(113), key, n)
			m.ab = marked(draw, (addedUp(m.ab.Value)+more)%113, key, n)
			wantChecked(t, "MarkedProduct", markedProduct(t, m), (x*y+more)%113, key)
		}
		for range 100 {
			m := drawnMultiplying(draw, draw(113), draw(113), draw(113), draw(113), draw(113), n)
			key := addedUp(m.key)
			who := draw(n)
			m.ab.Mark[who] = (m.ab.Mark[who] + 1 + draw(112)) % 113
			if product := markedProduct(t, m); impl.MarkedCheck(product, key) {
				t.Errorf("MarkedCheck of the product %v of %v holds for %d", product, m, key)
			}
		}
		list := someMarked(draw, n)
		for range 500 {
			each := func() impl.Marked { return list[draw(len(list))] }
			markedProduct(t, multiplying{each(), each(), each(), each(), each(), drawnList(draw, n)})
		}
	}
}

// P60: the marks of x and y are not told, so that they do not count, but the values do.
func TestMarkedProductTellsOnlyDAndE(t *testing.T) {
	draw := draws(601)
	for n := 2; n <= 7; n++ {
		for range 100 {
			m := drawnMultiplying(draw, draw(113), draw(113), draw(113), draw(113), draw(113), n)
			want := markedProduct(t, m)
			m.x = marked(draw, addedUp(m.x.Value), draw(113), n)
			m.y = marked(draw, addedUp(m.y.Value), draw(113), n)
			if got := markedProduct(t, m); !sameMarked(got, want) {
				t.Errorf("MarkedProduct of %v is %v, and with other shares of the same numbers %v", m, got, want)
			}
		}
	}
}

// P60: of what is not ok, of different numbers of parties, and with shares of the key that are too few, too many, or none numbers.
func TestMarkedProductIsToldJustOfAsManyParties(t *testing.T) {
	draw := draws(602)
	wantNone := func(m multiplying) {
		t.Helper()
		product, ok := m.told()
		wantNotMarked(t, fmt.Sprintf("MarkedProduct of %v", m), product, ok)
	}
	for n := 2; n <= 7; n++ {
		right := drawnMultiplying(draw, 5, 3, 2, 4, 7, n)
		bads := notMarked(n)
		for other := 2; other <= 7; other++ {
			if other != n {
				bads = append(bads, marked(draw, 5, 7, other))
				m := right
				m.key = keyShares(draw, 7, other)
				wantNone(m)
			}
		}
		for _, bad := range bads {
			for place := range 5 {
				m := right
				*[]*impl.Marked{&m.x, &m.y, &m.a, &m.b, &m.ab}[place] = bad
				wantNone(m)
			}
		}
		for _, bad := range notMarked(n) {
			wantNone(multiplying{bad, bad, bad, bad, bad, make([]int, n)})
			wantNone(multiplying{bad, bad, bad, bad, bad, make([]int, len(bad.Value))})
			wantNone(multiplying{bad, bad, bad, bad, bad, nil})
		}
		for _, bad := range notKeys(n) {
			m := right
			m.key = bad
			wantNone(m)
		}
	}
}

// markedWithSpare returns a copy of values and marks that have room for more behind them.
func markedWithSpare(x impl.Marked) impl.Marked {
	return impl.Marked{Value: withSpare(x.Value), Mark: withSpare(x.Mark)}
}

// wantMarkedKept fails the test if one of the functions does not keep the rules on memory. Each is called twice, so that both results are held against each other, with their values and marks.
func wantMarkedKept(t *testing.T, m multiplying, by int) {
	t.Helper()
	var args [][]int
	for _, x := range []impl.Marked{m.x, m.y, m.a, m.b, m.ab} {
		args = append(args, x.Value, x.Mark)
	}
	args = append(args, m.key)
	keep := func(name string, call func() (impl.Marked, bool)) {
		t.Helper()
		wantOwnMemory(t, name, args, func() [][]int {
			first, _ := call()
			second, _ := call()
			return [][]int{first.Value, first.Mark, second.Value, second.Mark}
		})
	}
	keep("MarkedMake", func() (impl.Marked, bool) { return impl.MarkedMake(5, by, len(m.x.Value), m.key) })
	keep("MarkedAdd", func() (impl.Marked, bool) { return impl.MarkedAdd(m.x, m.y) })
	keep("MarkedScale", func() (impl.Marked, bool) { return impl.MarkedScale(m.x, by) })
	keep("MarkedShift", func() (impl.Marked, bool) { return impl.MarkedShift(m.x, by, m.key) })
	keep("MarkedProduct", m.told)
	wantOwnMemory(t, "MarkedOk, MarkedSum and MarkedCheck", args, func() [][]int {
		impl.MarkedOk(m.x)
		impl.MarkedCheck(m.x, by)
		sum, _ := impl.MarkedSum(m.x)
		return [][]int{{sum}}
	})
}

// P53 to P60: the general rules on memory, also if several arguments are in the same memory.
func TestMarksOwnTheirMemory(t *testing.T) {
	draw := draws(530)
	for n := 2; n <= 7; n++ {
		for _, by := range []int{0, 1, 2, 112, 113} {
			list := someMarked(draw, n)
			for i := range list {
				list[i] = markedWithSpare(list[i])
			}
			each := func() impl.Marked { return list[draw(len(list))] }
			for range 20 {
				wantMarkedKept(t, multiplying{each(), each(), each(), each(), each(), withSpare(drawnList(draw, n))}, by)
			}
			x := markedWithSpare(marked(draw, 5, 7, n))
			x.Mark = x.Value
			wantMarkedKept(t, multiplying{x, x, x, x, x, x.Value}, by)
			wantMarkedKept(t, multiplying{x, x, x, x, x, withSpare(drawnList(draw, 2*(n-1)))}, by) // which is a tape
			wantMarkedKept(t, multiplying{x, x, x, x, x, withSpare([]int{1})}, by)
		}
		for _, bad := range notMarked(n)[:20] {
			bad = markedWithSpare(bad)
			wantMarkedKept(t, multiplying{bad, bad, bad, bad, bad, withSpare(make([]int, n))}, 1)
		}
	}
}

// P53 to P60: what was told before does not count, nor what is told at the same time.
func TestMarksKeepNoState(t *testing.T) {
	var together sync.WaitGroup
	for part := range 4 {
		together.Add(1)
		go func() {
			defer together.Done()
			draw := draws(uint32(531 + part%2))
			var list []multiplying
			var before []impl.Marked
			for range 300 {
				m := drawnMultiplying(draw, draw(113), draw(113), draw(113), draw(113), draw(113), 2+draw(6))
				list = append(list, m)
				product, _ := m.told()
				before = append(before, product)
				impl.MarkedShift(impl.Marked{}, -1, nil)
			}
			for i := len(list) - 1; i >= 0; i-- {
				if product, ok := list[i].told(); !ok || !sameMarked(product, before[i]) {
					t.Errorf("MarkedProduct of %v is %v, and %v before", list[i], product, before[i])
				}
			}
		}()
	}
	together.Wait()
}
