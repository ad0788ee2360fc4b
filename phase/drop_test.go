package phase_test

import (
	"slices"
	"testing"

	"slipstream/api"
	"slipstream/phase"
)

// scenes returns pictured mixes of all kinds of sides.
func scenes() []api.Mix {
	l := []api.Mix{
		pictured("A"), pictured("."), pictured("AB"), pictured("A", "B"), pictured("AB", "BA"), pictured("ABA"), pictured("A", "B", "B"),
		pictured("BBB", "BAB", "BBB"), pictured("A.A", "...", "A.A"), pictured("AAAA", "B==B", "A..A"), pictured("ABAB", "BABA", "ABAB", "BABA"),
	}
	for i, s := range sides() {
		next := thrown(uint64(i))
		for _, signs := range []string{"A", "AB", "AAAB", "AB=.", "BBBA=", "A.=", "B."} {
			var rows []string
			for range s[1] {
				row := ""
				for range s[0] {
					at := next(len(signs))
					row += signs[at : at+1]
				}
				rows = append(rows, row)
			}
			l = append(l, pictured(rows...))
		}
	}
	return l
}

// kindOf tells of which kind a cell is, as section 'Two phases' writes it.
func kindOf(x api.Mix, i int) int {
	a, b := mass(x.A[i:i+1]), mass(x.B[i:i+1])
	if a > b {
		return 1
	}
	if a < b {
		return 2
	}
	return 0
}

func TestKind(t *testing.T) {
	for _, x := range append(mixes(), scenes()...) {
		// Each call looks at the whole mix, so that of the cells of a large one only some are asked for.
		for i := 0; i < len(x.A); i += 1 + len(x.A)/70 {
			p := api.Point{X: i % x.Wide, Y: i / x.Wide}
			if k, e := phase.Kind(x, p); k != kindOf(x, i) || e != api.OK {
				t.Errorf("Kind of %v and %v = %d, %d", x.A[i], x.B[i], k, e)
			}
		}
		for _, p := range []api.Point{
			{X: -1}, {Y: -1}, {X: x.Wide}, {Y: x.High}, {X: x.Wide, Y: -1}, {X: -1, Y: x.High}, {X: x.Wide - 1, Y: x.High}, {X: -1, Y: 1}, {X: x.Wide, Y: x.High - 1},
			{X: badNumbers()[1]}, {Y: badNumbers()[1]}, {X: badNumbers()[2]}, {Y: badNumbers()[2]}, {X: badNumbers()[2], Y: badNumbers()[2]},
		} {
			if k, e := phase.Kind(x, p); k != 0 || e != api.ErrRange {
				t.Errorf("Kind of %d by %d at %v = %d, %d", x.Wide, x.High, p, k, e)
			}
		}
	}
	// What counts is the mass, not one population, nor the momentum.
	for _, c := range []struct {
		a, b api.Cell
		want int
	}{
		{api.Cell{}, api.Cell{}, 0}, {api.Cell{1}, api.Cell{}, 1}, {api.Cell{}, api.Cell{0, 0, 0, 1}, 2}, {api.Cell{5}, api.Cell{2, 1, 1, 1}, 0},
		{api.Cell{5}, api.Cell{2, 2, 1, 1}, 2}, {api.Cell{2, 0, 2}, api.Cell{0, 3}, 1}, {api.Cell{0, 500000000}, api.Cell{0, 0, 500000000}, 0}, {api.Cell{api.MaxMass}, api.Cell{}, 1},
	} {
		x := api.Mix{Wide: 1, High: 1, A: []api.Cell{c.a}, B: []api.Cell{c.b}}
		if k, e := phase.Kind(x, api.Point{}); k != c.want || e != api.OK {
			t.Errorf("Kind of %v and %v = %d, %d, want %d", c.a, c.b, k, e, c.want)
		}
	}
}

func TestInterfaceExamples(t *testing.T) {
	for _, c := range []struct {
		x    api.Mix
		want int
	}{
		{pictured("BBB", "BAB", "BBB"), 4},
		{pictured("BBB", "B=B", "BBB"), 0},
		{pictured("BBB", "B.B", "BBB"), 0},
		{pictured("ABB", "BBB", "BBB"), 4},
		{pictured("BBB", "BBB", "BBA"), 4},
		{pictured("BBBB", "BAAB", "BBBB"), 6},
		{pictured("A"), 0}, {pictured("AB"), 2}, {pictured("A", "B"), 2}, {pictured("AA"), 0}, {pictured("A="), 0}, {pictured("A."), 0},
		{pictured("AB", "BA"), 8}, {pictured("AB", "AB"), 4}, {pictured("AA", "BB"), 4},
		{pictured("ABB"), 2}, {pictured("BBA"), 2}, {pictured("A", "B", "B"), 2}, {pictured("B", "B", "A"), 2}, {pictured("A=B"), 1}, {pictured("B.A"), 1}, {pictured("A", "=", "B"), 1},
		{pictured("AAA", "BBB", "==="), 3}, {pictured("AB=", "AB=", "AB="), 3}, {pictured("ABAB"), 4}, {pictured("A=B="), 0},
	} {
		if n, e := phase.Interface(c.x); n != c.want || e != api.OK {
			t.Errorf("Interface(%v) = %d, %d, want %d", c.x, n, e, c.want)
		}
	}
}

// pairs counts the pairs of the interface along one row or column, told by its kinds.
func pairs(kinds []int) int {
	n := 0
	for i, k := range kinds {
		if next := kinds[(i+1)%len(kinds)]; k+next == 3 && k*next == 2 {
			n++
		}
	}
	return n
}

func TestInterfaceAsWritten(t *testing.T) {
	for _, x := range append(mixes(), scenes()...) {
		rows, columns := make([][]int, x.High), make([][]int, x.Wide)
		for i := range x.A {
			rows[i/x.Wide] = append(rows[i/x.Wide], kindOf(x, i))
			columns[i%x.Wide] = append(columns[i%x.Wide], kindOf(x, i))
		}
		want := 0
		for _, line := range append(rows, columns...) {
			n := pairs(line)
			if len(line) >= 3 && !slices.Contains(line, 0) && n%2 != 0 {
				t.Errorf("the line %v has %d pairs", line, n)
			}
			want += n
		}
		if n, e := phase.Interface(x); n != want || e != api.OK {
			t.Errorf("Interface(%v) = %d, %d, want %d", x, n, e, want)
		}
	}
}

// TestInterfaceEven lays rows and columns out by themselves: each of three cells or more, of A or of B, has an even interface.
func TestInterfaceEven(t *testing.T) {
	for n := 3; n <= 10; n++ {
		for which := range 1 << n {
			row, column := empty(n, 1), empty(1, n)
			for i := range n {
				cells, others := row.A, column.A
				if which>>i&1 != 0 {
					cells, others = row.B, column.B
				}
				cells[i], others[i] = api.Cell{0, 3}, api.Cell{0, 0, 3}
			}
			for _, x := range []api.Mix{row, column} {
				if pairs := done[int](t)(phase.Interface(x)); pairs%2 != 0 || pairs == 0 && which != 0 && which != 1<<n-1 {
					t.Errorf("Interface(%v) = %d", x, pairs)
				}
			}
		}
	}
}

// TestInterfaceSwapped: the interface and the drops do not depend on which phase is A.
func TestInterfaceSwapped(t *testing.T) {
	for _, x := range append(mixes(), scenes()...) {
		y := swapped(x)
		if done[int](t)(phase.Interface(x)) != done[int](t)(phase.Interface(y)) {
			t.Errorf("the swapped mix of %v has another interface", x)
		}
		if !slices.Equal(done[[]int](t)(phase.Drops(x, 1)), done[[]int](t)(phase.Drops(y, 2))) {
			t.Errorf("the swapped mix of %v has other drops", x)
		}
	}
}

func TestDropsExamples(t *testing.T) {
	for _, c := range []struct {
		x    api.Mix
		a, b []int
	}{
		{pictured("BBB", "BAB", "BBB"), []int{1}, []int{8}},
		{pictured("A"), []int{1}, nil}, {pictured("B"), nil, []int{1}}, {pictured("."), nil, nil}, {pictured("="), nil, nil},
		{pictured("A.A"), []int{2}, nil}, {pictured("A.AA."), []int{2, 1}, nil}, {pictured("AA.A."), []int{2, 1}, nil},
		{pictured("A", ".", "A"), []int{2}, nil}, {pictured("A", ".", "A", "."), []int{1, 1}, nil}, {pictured(".", "B", "=", "B", "B"), nil, []int{2, 1}},
		{pictured("A.A", "...", "A.A"), []int{4}, nil},
		{pictured("AB..", "BA..", "....", "...."), []int{1, 1}, []int{1, 1}},
		{pictured("AB", "BA"), []int{1, 1}, []int{1, 1}},
		{pictured("AAAAA", "B===B", "AA.AA", "==.=="), []int{5, 4}, []int{2}},
		{pictured("A....", "AAA..", "..A..", "..AB.", "....B"), []int{6}, []int{1, 1}},
		{pictured(".A.A..", ".A.A..", ".AAA..", "......", "BBB.B.", "......"), []int{7}, []int{3, 1}},
		{pictured("A..A.A", "A.....", "......", "AA....", "...AAA", "......"), []int{3, 3, 2, 1}, nil},
	} {
		for i, want := range [][]int{c.a, c.b} {
			if l, e := phase.Drops(c.x, i+1); !slices.Equal(l, want) || e != api.OK {
				t.Errorf("Drops(%v, %d) = %v, %d, want %v", c.x, i+1, l, e, want)
			}
		}
	}
}

// drops finds the drops by giving each cell its index, and then the least index of its neighbours of the kind as long as there is a lesser one.
func drops(x api.Mix, kind int) []int {
	least := make([]int, len(x.A))
	for i := range least {
		least[i] = i
	}
	for changed := true; changed; {
		changed = false
		for i := range least {
			for _, step := range [][2]int{{1, 0}, {0, 1}, {-1, 0}, {0, -1}} {
				j := mod(i%x.Wide+step[0], x.Wide) + x.Wide*mod(i/x.Wide+step[1], x.High)
				if kindOf(x, i) == kind && kindOf(x, j) == kind && least[j] < least[i] {
					least[i], changed = least[j], true
				}
			}
		}
	}
	sizes := map[int]int{}
	for i, first := range least {
		if kindOf(x, i) == kind {
			sizes[first]++
		}
	}
	var l []int
	for _, n := range sizes {
		l = append(l, n)
	}
	slices.SortFunc(l, func(a, b int) int { return b - a })
	return l
}

func TestDropsAsWritten(t *testing.T) {
	for _, x := range append(mixes(), scenes()...) {
		for kind := 1; kind <= 2; kind++ {
			l, e := phase.Drops(x, kind)
			if !slices.Equal(l, drops(x, kind)) || e != api.OK {
				t.Errorf("Drops(%v, %d) = %v, %d, want %v", x, kind, l, e, drops(x, kind))
			}
			cells := 0
			for i := range x.A {
				if kindOf(x, i) == kind {
					cells++
				}
			}
			for _, n := range l {
				cells -= n
			}
			if cells != 0 {
				t.Errorf("Drops(%v, %d) = %v: %d cells are left", x, kind, l, cells)
			}
		}
	}
}

// TestWindingDrop is a drop through which the way is as long as can be.
func TestWindingDrop(t *testing.T) {
	x := empty(64, 16)
	cells := 0
	for i := range x.A {
		column, row := i%64, i/64
		x.B[i] = api.Cell{1}
		if row%2 == 0 && column < 63 && row < 15 || row == 1 && column == 62 || row == 3 && column == 0 || row == 5 && column == 62 || row == 7 && column == 0 {
			x.A[i] = api.Cell{2}
		}
		if row <= 8 && x.A[i] != (api.Cell{}) {
			cells++
		}
	}
	want := []int{cells, 63, 63, 63}
	if l := done[[]int](t)(phase.Drops(x, 1)); !slices.Equal(l, want) {
		t.Errorf("Drops = %v, want %v", l, want)
	}
	full := empty(32, 32)
	for i := range full.B {
		full.B[i][i%4] = 1
	}
	if l := done[[]int](t)(phase.Drops(full, 2)); !slices.Equal(l, []int{1024}) {
		t.Errorf("Drops = %v", l)
	}
}

func TestDropsErrors(t *testing.T) {
	for _, x := range scenes() {
		for _, kind := range append(badNumbers(), 0, 3, 4) {
			if l, e := phase.Drops(x, kind); len(l) != 0 || e != api.ErrRange {
				t.Errorf("Drops of the kind %d = %v, %d", kind, l, e)
			}
		}
	}
}
