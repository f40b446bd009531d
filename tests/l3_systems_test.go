package tests

import (
	"math"
	"slices"
	"testing"

	"loop.example/underveil/impl"
)

// drawnList returns n numbers that are drawn, about every third of them 0.
func drawnList(draw func(int) int, n int) []int {
	list := make([]int, n)
	for i := range list {
		list[i] = draw(113) * min(draw(3), 1)
	}
	return list
}

// matrixOf returns the matrix of which a function tells each number.
func matrixOf(rows, columns int, number func(i, j int) int) [][]int {
	m := make([][]int, rows)
	for i := range m {
		m[i] = make([]int, columns)
		for j := range m[i] {
			m[i][j] = number(i, j)
		}
	}
	return m
}

// turned returns a matrix whose rows are the columns of another one.
func turned(m [][]int) [][]int {
	return matrixOf(len(m[0]), len(m), func(i, j int) int { return m[j][i] })
}

// dependentRows returns a matrix of which about two rows of three are zeros or sums of multiples of the rows above.
func dependentRows(draw func(int) int, rows, columns int) [][]int {
	var m [][]int
	for i := range rows {
		r := make([]int, columns)
		switch draw(3) {
		case 0:
			for _, above := range m {
				by := draw(113)
				for j := range r {
					r[j] = (r[j] + by*above[j]) % 113
				}
			}
		case 1:
			r = drawnList(draw, columns)
		default:
			if i > 0 && draw(2) == 0 {
				copy(r, m[draw(i)])
			}
		}
		m = append(m, r)
	}
	return m
}

// someMatrices returns matrices of all heights and widths: zeros, the greatest numbers, ones that need rows to be exchanged, and drawn ones, among them many whose rows or columns depend on each other.
func someMatrices() [][][]int {
	draw := draws(3)
	var list [][][]int
	for rows := 1; rows <= 8; rows++ {
		for columns := 1; columns <= 8; columns++ {
			list = append(list,
				matrixOf(rows, columns, func(i, j int) int { return 0 }),
				matrixOf(rows, columns, func(i, j int) int { return 112 }),
				matrixOf(rows, columns, func(i, j int) int { return 1 - min((i-j)*(i-j), 1) }),
				matrixOf(rows, columns, func(i, j int) int { return (i + j) / 7 % 2 }),
				matrixOf(rows, columns, func(i, j int) int { return draw(113) }),
				matrixOf(rows, columns, func(i, j int) int { return draw(113) * draw(2) }),
			)
			for range 6 {
				list = append(list, dependentRows(draw, rows, columns), turned(dependentRows(draw, columns, rows)))
			}
		}
	}
	return list
}

// notMatrices returns lists of rows that are no matrices.
func notMatrices() [][][]int {
	ones := func(rows, columns int) [][]int { return matrixOf(rows, columns, func(i, j int) int { return 1 }) }
	list := [][][]int{nil, {}, {nil}, {{}}, {{}, {}}, {{1}, {}}, {{}, {1}}, {{1, 2}, {3}}, {{1}, {2, 3}}, {{1, 2}, {3, 4}, {5}}, {{1, 2}, nil, {3, 4}}, make([][]int, 8), make([][]int, 9)}
	for n := 1; n <= 8; n++ {
		list = append(list, ones(9, n), ones(n, 9), append(ones(n, 8), make([]int, 9)), append(ones(n, 8), make([]int, 7)))
	}
	list = append(list, ones(9, 9), ones(100, 1), ones(1, 100), ones(10, 10), append(ones(1, 1), ones(8, 1)...))
	for _, shape := range [][2]int{{1, 1}, {1, 8}, {8, 1}, {2, 3}, {8, 8}} {
		for i := range shape[0] {
			for j := range shape[1] {
				for _, bad := range []int{math.MinInt, math.MinInt + 1, -114, -113, -112, -1, 113, 114, 226, 1 << 32, math.MaxInt - 1, math.MaxInt} {
					m := ones(shape[0], shape[1])
					m[i][j] = bad
					list = append(list, m)
				}
			}
		}
	}
	for _, bad := range notNumbers() {
		list = append(list, [][]int{{bad}}, [][]int{{1, 2}, {3, bad}})
	}
	return list
}

// notLists returns what is no list of n numbers: too short, too long, or with one that is no number.
func notLists(n int) [][]int {
	list := [][]int{make([]int, n+1), make([]int, n-1), make([]int, n+8), make([]int, 1000)}
	if n > 1 {
		list = append(list, nil, []int{})
	}
	for i := range n {
		for _, bad := range []int{math.MinInt, math.MinInt + 1, -113, -1, 113, 114, 226, 1 << 32, math.MaxInt} {
			x := make([]int, n)
			x[i] = bad
			list = append(list, x)
		}
	}
	return list
}

// timesOf reckons a matrix times a list.
func timesOf(m [][]int, x []int) []int {
	list := make([]int, len(m))
	for i, r := range m {
		for j, a := range r {
			list[i] = (list[i] + a*x[j]) % 113
		}
	}
	return list
}

// span is lists, each with a place at which it has a 1 and all behind it have a 0.
type span struct {
	lists  [][]int
	places []int
}

// rest returns a list without its multiples of those of the span: zeros just if it is a sum of them.
func (s *span) rest(list []int) []int {
	list = slices.Clone(list)
	for k, other := range s.lists {
		by := list[s.places[k]]
		for i := range list {
			list[i] = (list[i] + (113-by)*other[i]) % 113
		}
	}
	return list
}

// grow adds a list to the span and returns whether it was no sum of multiples of those there.
func (s *span) grow(list []int) bool {
	rest := s.rest(list)
	place := slices.IndexFunc(rest, func(a int) bool { return a != 0 })
	if place < 0 {
		return false
	}
	inverse := 1
	for rest[place]*inverse%113 != 1 {
		inverse++
	}
	for i := range rest {
		rest[i] = rest[i] * inverse % 113
	}
	s.lists, s.places = append(s.lists, rest), append(s.places, place)
	return true
}

// columnsOf tells the columns that depend on earlier ones, from the left on, and the span of all columns.
func columnsOf(m [][]int) ([]int, *span) {
	var dependent []int
	s := &span{}
	for j, column := range turned(m) {
		if !s.grow(column) {
			dependent = append(dependent, j)
		}
	}
	return dependent, s
}

// wantList fails the test unless a result is n numbers and true; it returns the list.
func wantList(t *testing.T, name string, got []int, ok bool, n int) []int {
	t.Helper()
	if !ok || len(got) != n || slices.ContainsFunc(got, func(a int) bool { return a < 0 || a > 112 }) {
		t.Fatalf("%s is %v, %v, not %d numbers", name, got, ok, n)
	}
	return got
}

func matrixTimes(t *testing.T, m [][]int, x []int) []int {
	t.Helper()
	list, ok := impl.MatrixTimes(m, x)
	return wantList(t, "MatrixTimes", list, ok, len(m))
}

// wantSolution fails the test unless MatrixSolve tells a list that the matrix times it is right, with zeros in the dependent columns; it returns the list.
func wantSolution(t *testing.T, m [][]int, right []int) []int {
	t.Helper()
	x, ok := impl.MatrixSolve(m, right)
	wantList(t, "MatrixSolve", x, ok, len(m[0]))
	if got := matrixTimes(t, m, x); !slices.Equal(got, right) {
		t.Errorf("MatrixSolve(%v, %v) is %v, times which it is %v", m, right, x, got)
	}
	dependent, _ := columnsOf(m)
	for _, j := range dependent {
		if x[j] != 0 {
			t.Errorf("MatrixSolve(%v, %v) is %v, though column %d depends on earlier ones", m, right, x, j)
		}
	}
	return x
}

// P18
func TestMatrixRankIsToldJustOfMatrices(t *testing.T) {
	for _, m := range someMatrices() {
		dependent, _ := columnsOf(m)
		if got, want := impl.MatrixRank(m), len(m[0])-len(dependent); got != want || !impl.MatrixOk(m) {
			t.Errorf("MatrixRank(%v) is %d, not %d", m, got, want)
		}
	}
	for _, m := range notMatrices() {
		if got := impl.MatrixRank(m); got != -1 || impl.MatrixOk(m) {
			t.Errorf("MatrixRank(%v) is %d, not -1", m, got)
		}
	}
}

// P18: nothing else is told of what is no matrix, whatever it is asked of.
func TestSystemsAreToldJustOfMatrices(t *testing.T) {
	for _, m := range notMatrices() {
		if got := impl.MatrixKernel(m); len(got) != 0 {
			t.Errorf("MatrixKernel(%v) is %v, not nothing", m, got)
		}
		for _, n := range []int{0, 1, 2, 3, 7, 8, 9, 10, 100, len(m)} {
			x, ok := impl.MatrixTimes(m, make([]int, n))
			wantNoList(t, "MatrixTimes", x, ok)
			x, ok = impl.MatrixSolve(m, make([]int, n))
			wantNoList(t, "MatrixSolve", x, ok)
		}
	}
}

// P19
func TestMatrixTimesOfAListTwice(t *testing.T) {
	draw := draws(19)
	for _, m := range someMatrices() {
		for range 5 {
			x := drawnList(draw, len(m[0]))
			once := matrixTimes(t, m, x)
			if want := timesOf(m, x); !slices.Equal(once, want) {
				t.Errorf("MatrixTimes(%v, %v) is %v, not %v", m, x, once, want)
			}
			twice, want := make([]int, len(x)), make([]int, len(once))
			for j, a := range x {
				twice[j] = add(t, a, a)
			}
			for i, a := range once {
				want[i] = add(t, a, a)
			}
			if got := matrixTimes(t, m, twice); !slices.Equal(got, want) {
				t.Errorf("MatrixTimes(%v, %v) is %v, not %v", m, twice, got, want)
			}
		}
		greatest := slices.Repeat([]int{112}, len(m[0]))
		if got, want := matrixTimes(t, m, greatest), timesOf(m, greatest); !slices.Equal(got, want) {
			t.Errorf("MatrixTimes(%v, %v) is %v, not %v", m, greatest, got, want)
		}
	}
}

// P19: of lists of as many numbers as a row has.
func TestMatrixTimesIsToldJustOfLists(t *testing.T) {
	for _, m := range someMatrices() {
		for _, x := range notLists(len(m[0])) {
			list, ok := impl.MatrixTimes(m, x)
			wantNoList(t, "MatrixTimes", list, ok)
		}
	}
	for _, bad := range notNumbers() {
		list, ok := impl.MatrixTimes([][]int{{1, 0}, {0, 0}}, []int{3, bad})
		wantNoList(t, "MatrixTimes", list, ok)
	}
}

// P20
func TestMatrixTimesOfMatrixSolveIsTheRightSide(t *testing.T) {
	draw := draws(20)
	for _, m := range someMatrices() {
		dependent, _ := columnsOf(m)
		for range 5 {
			x := drawnList(draw, len(m[0]))
			wantSolution(t, m, timesOf(m, x))
			for _, j := range dependent {
				x[j] = 0
			}
			if got := wantSolution(t, m, timesOf(m, x)); !slices.Equal(got, x) {
				t.Errorf("MatrixSolve(%v, %v) is %v, not %v", m, timesOf(m, x), got, x)
			}
		}
		if got := wantSolution(t, m, make([]int, len(m))); !slices.Equal(got, make([]int, len(m[0]))) {
			t.Errorf("MatrixSolve(%v) of zeros is %v", m, got)
		}
	}
}

// P20: of one row and one column, for all numbers.
func TestMatrixSolveOfOneNumber(t *testing.T) {
	for _, a := range allNumbers() {
		for _, right := range allNumbers() {
			x, ok := impl.MatrixSolve([][]int{{a}}, []int{right})
			if a == 0 && right != 0 {
				wantNoList(t, "MatrixSolve", x, ok)
				continue
			}
			wantList(t, "MatrixSolve", x, ok, 1)
			if a*x[0]%113 != right || a == 0 && x[0] != 0 {
				t.Errorf("%d times %v is not %d", a, x, right)
			}
		}
	}
}

// P20, with answers reckoned by hand.
func TestMatrixSolveReckonedByHand(t *testing.T) {
	for _, c := range []struct {
		m           [][]int
		right, want []int
	}{
		{[][]int{{1, 1}, {1, 112}}, []int{5, 1}, []int{3, 2}},
		{[][]int{{0, 1}, {1, 0}}, []int{5, 7}, []int{7, 5}},
		{[][]int{{2}}, []int{1}, []int{57}},
		{[][]int{{1, 2, 3}}, []int{4}, []int{4, 0, 0}},
		{[][]int{{0, 2, 3}}, []int{4}, []int{0, 2, 0}},
		{[][]int{{0, 0, 0}}, []int{0}, []int{0, 0, 0}},
		{[][]int{{0}, {0}, {3}}, []int{0, 0, 6}, []int{2}},
		{[][]int{{1, 2}, {2, 4}}, []int{3, 6}, []int{3, 0}},                                // the second row is twice the first
		{[][]int{{1, 2, 0}, {2, 4, 1}}, []int{3, 7}, []int{3, 0, 1}},                       // the second column is twice the first
		{[][]int{{1, 0, 1}, {0, 1, 1}}, []int{5, 6}, []int{5, 6, 0}},                       // the third column is the sum of both
		{[][]int{{0, 1, 1, 0}, {0, 0, 0, 2}}, []int{5, 6}, []int{0, 5, 0, 3}},              // the first column is zeros
		{[][]int{{1, 1}, {1, 2}, {2, 3}}, []int{10, 11, 21}, []int{9, 1}},                  // the third row is the sum of both
		{[][]int{{1, 1, 1}, {1, 2, 4}, {1, 3, 9}}, []int{2, 5, 10}, []int{1, 0, 1}},        // 1 + x*x
		{[][]int{{0, 0, 1}, {0, 1, 0}, {1, 0, 0}}, []int{1, 2, 3}, []int{3, 2, 1}},         // rows the other way round
		{[][]int{{0, 0, 0}, {0, 0, 5}, {0, 0, 0}}, []int{0, 10, 0}, []int{0, 0, 2}},        // zeros all around
		{[][]int{{112, 1}, {1, 112}, {0, 1}}, []int{1, 112, 4}, []int{3, 4}},               // the first two rows add up to zeros
		{[][]int{{1, 112, 0}, {0, 1, 112}, {112, 0, 1}}, []int{1, 1, 111}, []int{2, 1, 0}}, // all three rows do
	} {
		if got := wantSolution(t, c.m, c.right); !slices.Equal(got, c.want) {
			t.Errorf("MatrixSolve(%v, %v) is %v, not %v", c.m, c.right, got, c.want)
		}
	}
}

// P20: of as many numbers as there are rows.
func TestMatrixSolveIsToldJustOfRightSides(t *testing.T) {
	for _, m := range someMatrices() {
		for _, right := range notLists(len(m)) {
			x, ok := impl.MatrixSolve(m, right)
			wantNoList(t, "MatrixSolve", x, ok)
		}
	}
	for _, bad := range notNumbers() {
		x, ok := impl.MatrixSolve([][]int{{1, 0}, {0, 1}}, []int{3, bad})
		wantNoList(t, "MatrixSolve", x, ok)
	}
}

// P21
func TestMatrixRankAndMatrixKernelAreTheColumns(t *testing.T) {
	for _, m := range someMatrices() {
		rank, kernel := impl.MatrixRank(m), impl.MatrixKernel(m)
		if rank < 0 || rank > len(m) || rank+len(kernel) != len(m[0]) {
			t.Errorf("MatrixRank(%v) is %d and MatrixKernel is %v", m, rank, kernel)
		}
	}
}

// P21, with ranks reckoned by hand.
func TestMatrixRankReckonedByHand(t *testing.T) {
	for _, c := range []struct {
		m    [][]int
		want int
	}{
		{[][]int{{0}}, 0}, {[][]int{{112}}, 1}, {[][]int{{0, 0, 7}}, 1}, {[][]int{{0}, {0}, {7}}, 1},
		{[][]int{{1, 2}, {2, 4}}, 1}, {[][]int{{1, 2}, {2, 5}}, 2}, {[][]int{{1, 2}, {57, 1}}, 1},
		{[][]int{{1, 2, 3}, {4, 5, 6}, {7, 8, 9}}, 2}, {[][]int{{1, 2, 3}, {4, 5, 6}, {7, 8, 10}}, 3},
		{matrixOf(8, 8, func(i, j int) int { return 0 }), 0}, {matrixOf(8, 8, func(i, j int) int { return 1 }), 1},
		{matrixOf(8, 8, func(i, j int) int { return i + j }), 2}, {matrixOf(8, 8, func(i, j int) int { return (i + j) * (i + j) % 113 }), 3},
		{matrixOf(8, 3, func(i, j int) int { return min(i, j) }), 2}, {matrixOf(3, 8, func(i, j int) int { return min(i, j) + 1 }), 3},
	} {
		if got := impl.MatrixRank(c.m); got != c.want {
			t.Errorf("MatrixRank(%v) is %d, not %d", c.m, got, c.want)
		}
	}
}

// P22
func TestMatrixTimesOfMatrixKernelIsZeros(t *testing.T) {
	for _, m := range someMatrices() {
		dependent, _ := columnsOf(m)
		kernel := impl.MatrixKernel(m)
		if len(kernel) != len(dependent) {
			t.Fatalf("MatrixKernel(%v) is %v, not %d lists", m, kernel, len(dependent))
		}
		for k, x := range kernel {
			wantList(t, "a list of MatrixKernel", x, true, len(m[0]))
			if got := matrixTimes(t, m, x); !slices.Equal(got, make([]int, len(m))) {
				t.Errorf("MatrixKernel(%v) has %v, times which it is %v", m, x, got)
			}
			for _, j := range dependent {
				if want := 1 - min((j-dependent[k])*(j-dependent[k]), 1); x[j] != want {
					t.Errorf("MatrixKernel(%v) has at index %d %v, with %d in column %d", m, k, x, x[j], j)
				}
			}
		}
	}
}

// P22: each list is what MatrixSolve tells, and multiples of the lists of MatrixKernel.
func TestEachSolutionIsMadeOfMatrixKernel(t *testing.T) {
	draw := draws(22)
	for _, m := range someMatrices() {
		dependent, _ := columnsOf(m)
		x := drawnList(draw, len(m[0]))
		sum := slices.Clone(wantSolution(t, m, timesOf(m, x)))
		for k, list := range impl.MatrixKernel(m) {
			for j := range sum {
				sum[j] = add(t, sum[j], mul(t, x[dependent[k]], list[j]))
			}
		}
		if !slices.Equal(sum, x) {
			t.Errorf("%v times %v is made of %v", m, x, sum)
		}
	}
}

// P22, with answers reckoned by hand.
func TestMatrixKernelReckonedByHand(t *testing.T) {
	for _, c := range []struct{ m, want [][]int }{
		{[][]int{{1}}, nil},
		{[][]int{{0}}, [][]int{{1}}},
		{[][]int{{1, 2}, {2, 4}}, [][]int{{111, 1}}},
		{[][]int{{1, 2}, {2, 5}}, nil},
		{[][]int{{0, 0, 0}}, [][]int{{1, 0, 0}, {0, 1, 0}, {0, 0, 1}}},
		{[][]int{{1, 2, 3}}, [][]int{{111, 1, 0}, {110, 0, 1}}},
		{[][]int{{0, 2, 4}}, [][]int{{1, 0, 0}, {0, 111, 1}}},
		{[][]int{{0, 1, 1, 0}, {0, 0, 0, 2}}, [][]int{{1, 0, 0, 0}, {0, 112, 1, 0}}},
		{[][]int{{1, 2, 3}, {4, 5, 6}, {7, 8, 9}}, [][]int{{1, 111, 1}}},
		{[][]int{{1, 1, 0, 2}, {0, 0, 1, 3}}, [][]int{{112, 1, 0, 0}, {111, 0, 110, 1}}},
	} {
		if got := impl.MatrixKernel(c.m); !sameLists(got, c.want) {
			t.Errorf("MatrixKernel(%v) is %v, not %v", c.m, got, c.want)
		}
	}
}

// isSolved reports whether some list times a matrix of one or two columns is right, by trying all of them.
func isSolved(t *testing.T, m [][]int, right []int) bool {
	t.Helper()
	x := make([]int, len(m[0]))
	for x[0] = range 113 {
		for last := range 113 {
			x[len(x)-1] = last
			if slices.Equal(matrixTimes(t, m, x), right) {
				return true
			}
		}
	}
	return false
}

// P23
func TestNoListSolvesWhatMatrixSolveDoesNot(t *testing.T) {
	draw := draws(23)
	unsolved := 0
	for _, m := range someMatrices() {
		if len(m[0]) > 2 {
			continue
		}
		right := drawnList(draw, len(m))
		if _, ok := impl.MatrixSolve(m, right); !ok {
			unsolved++
			if isSolved(t, m, right) {
				t.Errorf("MatrixSolve(%v, %v) is not told", m, right)
			}
		}
	}
	if unsolved < 50 {
		t.Errorf("just %d systems are not solved", unsolved)
	}
	for a := range 81 {
		m := [][]int{{a % 3, a / 3 % 3}, {a / 9 % 3, a / 27}}
		for b := range 9 {
			right := []int{b % 3, b / 3}
			x, ok := impl.MatrixSolve(m, right)
			if ok != isSolved(t, m, right) {
				t.Errorf("MatrixSolve(%v, %v) is %v, %v", m, right, x, ok)
			}
		}
	}
}

// P23: of all widths, by whether the right side is a sum of multiples of the columns.
func TestMatrixSolveIsToldJustOfWhatIsSolved(t *testing.T) {
	draw := draws(230)
	for _, m := range someMatrices() {
		_, columns := columnsOf(m)
		for i := range 2 * len(m) {
			right := timesOf(m, drawnList(draw, len(m[0])))
			right[i%len(m)] = (right[i%len(m)] + 1 + draw(112)) % 113
			if slices.Equal(columns.rest(right), make([]int, len(m))) {
				wantSolution(t, m, right)
				continue
			}
			x, ok := impl.MatrixSolve(m, right)
			wantNoList(t, "MatrixSolve", x, ok)
		}
	}
}

// P23, with systems without a solution that are seen by eye.
func TestMatrixSolveOfContradictions(t *testing.T) {
	for _, c := range []struct {
		m     [][]int
		right []int
	}{
		{[][]int{{0}}, []int{1}},
		{[][]int{{0}}, []int{112}},
		{[][]int{{1}, {1}}, []int{1, 2}},
		{[][]int{{0}, {1}}, []int{1, 2}},
		{[][]int{{1}, {0}}, []int{1, 2}},
		{[][]int{{1, 2}, {2, 4}}, []int{3, 7}},
		{[][]int{{2, 4}, {1, 2}}, []int{0, 1}},
		{[][]int{{0, 0}, {0, 0}}, []int{0, 1}},
		{[][]int{{1, 1}, {1, 2}, {2, 3}}, []int{10, 11, 22}},
		{[][]int{{1, 2, 3}, {0, 0, 0}}, []int{0, 1}},
		{[][]int{{1, 112, 0}, {0, 1, 112}, {112, 0, 1}}, []int{1, 1, 1}},
		{matrixOf(8, 8, func(i, j int) int { return j + 1 }), []int{5, 5, 5, 5, 5, 5, 5, 6}},
	} {
		x, ok := impl.MatrixSolve(c.m, c.right)
		wantNoList(t, "MatrixSolve", x, ok)
	}
}

// matrixWithSpare returns a copy of a matrix whose rows, and the list of them, have room for more behind them.
func matrixWithSpare(m [][]int) [][]int {
	room := make([][]int, len(m), len(m)+9)
	for i := range m {
		room[i] = withSpare(m[i])
	}
	return room
}

// wantMatrixKept fails the test if one of the functions does not keep the rules on memory. Each is called twice, so that both results are held against each other.
func wantMatrixKept(t *testing.T, m [][]int, list []int) {
	t.Helper()
	rows := slices.Clone(m)
	args := append(slices.Clone(m), list)
	wantOwnMemory(t, "MatrixTimes", args, func() [][]int {
		first, _ := impl.MatrixTimes(m, list)
		second, _ := impl.MatrixTimes(m, list)
		return [][]int{first, second}
	})
	wantOwnMemory(t, "MatrixSolve", args, func() [][]int {
		first, _ := impl.MatrixSolve(m, list)
		second, _ := impl.MatrixSolve(m, list)
		return [][]int{first, second}
	})
	wantOwnMemory(t, "MatrixKernel", args, func() [][]int {
		return append(impl.MatrixKernel(m), impl.MatrixKernel(m)...)
	})
	wantOwnMemory(t, "MatrixOk and MatrixRank", args, func() [][]int {
		impl.MatrixOk(m)
		impl.MatrixRank(m)
		return nil
	})
	for i := range rows {
		if len(m[i]) != len(rows[i]) || len(m[i]) > 0 && &m[i][0] != &rows[i][0] {
			t.Errorf("row %d of %v is another one than before", i, rows)
		}
	}
	if room := m[:cap(m)]; slices.ContainsFunc(room[len(m):], func(r []int) bool { return r != nil }) {
		t.Errorf("rows are written behind %v", m)
	}
}

// P18 to P23: the general rules on memory.
func TestSystemsOwnTheirMemory(t *testing.T) {
	draw := draws(18)
	for _, one := range someMatrices() {
		m := matrixWithSpare(one)
		wantMatrixKept(t, m, withSpare(drawnList(draw, len(m[0]))))
		wantMatrixKept(t, m, withSpare(timesOf(m, drawnList(draw, len(m[0])))))
		wantMatrixKept(t, m, m[0])
	}
	row := withSpare([]int{0, 3, 5})
	wantMatrixKept(t, [][]int{row, row, row}, row)
	for _, bad := range [][][]int{nil, {{}}, {{1, 2}, {3}}, {{113}}, {{-1, 2}, {0, 1}}} {
		wantMatrixKept(t, matrixWithSpare(bad), withSpare([]int{1, 2}))
	}
	wantMatrixKept(t, matrixWithSpare([][]int{{1, 2}, {3, 4}}), withSpare([]int{1, 113}))
}
