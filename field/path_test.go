package field_test

import (
	"math"
	"slices"
	"strings"
	"testing"

	"slipstream/api"
	"slipstream/field"
)

// mainOf returns the main way of a cell as the chapter says it, or -1.
func mainOf(c api.Cell) int {
	switch most := max(c[0], c[1], c[2], c[3]); most {
	case 0:
		return -1
	case c[api.East]:
		return api.East
	case c[api.North]:
		return api.North
	case c[api.West]:
		return api.West
	default:
		return api.South
	}
}

// ahead returns the index of the cell to which a main way leads, or -1.
func ahead(g api.Grid, i int) int {
	p := pointOf(g, i)
	switch mainOf(g.Cells[i]) {
	case api.East:
		p.X++
	case api.North:
		p.Y++
	case api.West:
		p.X += g.Wide - 1
	case api.South:
		p.Y += g.High - 1
	default:
		return -1
	}
	return p.X%g.Wide + g.Wide*(p.Y%g.High)
}

// TestMainOfAll takes all cells with few particles.
func TestMainOfAll(t *testing.T) {
	for n := range 4 * 4 * 4 * 4 {
		c := api.Cell{n % 4, n / 4 % 4, n / 16 % 4, n / 64}
		want, wantError := mainOf(c), api.OK
		if want < 0 {
			want, wantError = 0, api.ErrNone
		}
		g := filled(3, 2, 1, 9, uint64(n))
		for i := range g.Cells {
			g.Cells[i] = c
			if dir, e := field.Main(g, pointOf(g, i)); dir != want || e != wantError {
				t.Errorf("Main of %v = %d, %d, want %d, %d", c, dir, e, want, wantError)
			}
		}
	}
}

func TestMainOfMany(t *testing.T) {
	for _, c := range []struct {
		c   api.Cell
		dir int
	}{
		{api.Cell{1, 2, 3, 4}, api.South}, {api.Cell{4, 3, 2, 1}, api.East}, {api.Cell{0, 5, 0, 5}, api.North}, {api.Cell{4, 4, 5, 5}, api.West}, {api.Cell{7, 7, 7, 7}, api.East},
		{api.Cell{249999999, 250000000, 250000000, 249999999}, api.North}, {api.Cell{0, 0, api.MaxMass, 0}, api.West}, {api.Cell{0, 0, 0, 1}, api.South},
	} {
		g := api.Grid{Wide: 1, High: 1, Cells: []api.Cell{c.c}}
		if dir, e := field.Main(g, at(0, 0)); dir != c.dir || e != api.OK {
			t.Errorf("Main of %v = %d, %d, want %d", c.c, dir, e, c.dir)
		}
	}
}

func TestPath(t *testing.T) {
	for _, c := range []struct {
		g    api.Grid
		p    api.Point
		want []api.Point
		came bool
	}{
		{read(t, "2 2\n1 0 0 0\n0 1 0 0\n0 0 0 0\n0 0 0 0\n"), at(0, 0), []api.Point{at(0, 0), at(1, 0), at(1, 1)}, false},
		{drawn("."), at(0, 0), []api.Point{at(0, 0)}, false},
		{drawn(">"), at(0, 0), []api.Point{at(0, 0)}, true},
		{drawn("v"), at(0, 0), []api.Point{at(0, 0)}, true},
		{drawn("v^", "^v"), at(0, 1), []api.Point{at(0, 1), at(0, 0)}, true},
		{drawn("<<<"), at(1, 0), []api.Point{at(1, 0), at(0, 0), at(2, 0)}, true},
		{drawn(">>>"), at(1, 0), []api.Point{at(1, 0), at(2, 0), at(0, 0)}, true},
		{drawn("^", "^", "^"), at(0, 1), []api.Point{at(0, 1), at(0, 2), at(0, 0)}, true},
		{drawn("v", "v", "v"), at(0, 1), []api.Point{at(0, 1), at(0, 0), at(0, 2)}, true},
		{drawn(">>><.", "....."), at(0, 1), []api.Point{at(0, 1), at(1, 1), at(2, 1), at(3, 1)}, true},
		{drawn("<....", "^...."), at(0, 0), []api.Point{at(0, 0), at(0, 1), at(4, 1)}, false},
		{drawn("...", "..v"), at(2, 0), []api.Point{at(2, 0), at(2, 1)}, false},
		{drawn(">v", "^<"), at(1, 1), []api.Point{at(1, 1), at(1, 0), at(0, 0), at(0, 1)}, true},
	} {
		if l, came, e := field.Path(c.g, c.p); !slices.Equal(l, c.want) || came != c.came || e != api.OK {
			t.Errorf("%v: Path from %v = %v, %v, %d, want %v, %v", c.g, c.p, l, came, e, c.want, c.came)
		}
	}
}

// TestPathsAsWritten follows the paths from all cells, and looks where they come round.
func TestPathsAsWritten(t *testing.T) {
	for _, g := range slices.Concat(grids(), smallGrids()) {
		rings := done[[][]int](t)(field.Rings(g))
		for start := range g.Cells {
			var want []api.Point
			i := start
			for i >= 0 && !slices.Contains(want, pointOf(g, i)) {
				want = append(want, pointOf(g, i))
				i = ahead(g, i)
			}
			l, came, e := field.Path(g, pointOf(g, start))
			if !slices.Equal(l, want) || came != (i >= 0) || e != api.OK {
				t.Fatalf("%v: Path from %d = %v, %v, %d, want %v", g, start, l, came, e, want)
			}
			if len(l) > len(g.Cells) {
				t.Fatalf("%v: Path from %d has %d cells", g, start, len(l))
			}
			last := l[len(l)-1]
			if _, e := field.Main(g, last); came == (e == api.ErrNone) {
				t.Fatalf("%v: Path from %d ends in %v", g, start, last)
			}
			// The cells from that on to which the path came again are one of the rings.
			if came && !slices.ContainsFunc(rings, func(r []int) bool { return isRound(g, r, l[slices.Index(l, pointOf(g, i)):]) }) {
				t.Fatalf("%v: Path from %d comes round, but not on one of %v", g, start, rings)
			}
		}
	}
}

// isRound reports whether a ring is all places, from some of them on.
func isRound(g api.Grid, ring []int, places []api.Point) bool {
	var l []int
	for _, p := range places {
		l = append(l, indexOf(g, p))
	}
	first := slices.Index(l, ring[0])
	return first >= 0 && slices.Equal(slices.Concat(l[first:], l[:first]), ring)
}

// TestLongestPath goes through all cells of a greatest grid: in each row round the sides, and then north, one column further west than in the row below.
func TestLongestPath(t *testing.T) {
	g := empty(32, 32)
	for i := range g.Cells {
		dir := api.East
		if p := pointOf(g, i); (p.X+p.Y)%32 == 31 {
			dir = api.North
		}
		g.Cells[i][dir] = 1
	}
	l, came, e := field.Path(g, at(0, 0))
	if len(l) != 1024 || !came || e != api.OK {
		t.Fatalf("Path has %d cells, %v, %d", len(l), came, e)
	}
	rings := done[[][]int](t)(field.Rings(g))
	if len(rings) != 1 || !isRound(g, rings[0], l) || rings[0][0] != 0 {
		t.Errorf("Rings = %v", rings)
	}
	g.Cells[indexOf(g, l[1023])] = api.Cell{}
	if l, came, e := field.Path(g, at(0, 0)); len(l) != 1024 || came || e != api.OK {
		t.Errorf("Path has %d cells, %v, %d", len(l), came, e)
	}
	if rings := done[[][]int](t)(field.Rings(g)); len(rings) != 0 {
		t.Errorf("Rings = %v", rings)
	}
}

func TestSinks(t *testing.T) {
	for _, c := range []struct {
		g    api.Grid
		want []int
	}{
		{drawn("."), nil}, {drawn(">"), nil}, {drawn("...", "..."), nil}, {drawn(">>", "<<"), nil},
		{drawn(">.<"), []int{1}}, {drawn("..>"), []int{0}}, {drawn("<.."), []int{2}}, {drawn("^", ".", "."), []int{0}}, {drawn(".", ".", "v"), []int{2}},
		{drawn(".v.", ">.<", ".^."), []int{4}}, {drawn("...", ".^.", "..."), []int{7}}, {drawn("...", "v..", ".>."), []int{0, 2}},
		{drawn("v..", "..^", ">.."), []int{1, 3, 8}},
	} {
		if l, e := field.Sinks(c.g); !slices.Equal(l, c.want) || e != api.OK {
			t.Errorf("%v: Sinks = %v, %d, want %v", c.g, l, e, c.want)
		}
	}
}

func TestSinksAsWritten(t *testing.T) {
	for _, g := range slices.Concat(grids(), smallGrids()) {
		var want []int
		for i, c := range g.Cells {
			leads := func(from int) bool { return ahead(g, from) == i }
			if mainOf(c) < 0 && slices.ContainsFunc(indexes(g), leads) {
				want = append(want, i)
			}
		}
		if l, e := field.Sinks(g); !slices.Equal(l, want) || e != api.OK {
			t.Fatalf("%v: Sinks = %v, %d, want %v", g, l, e, want)
		}
	}
}

func indexes(g api.Grid) []int {
	var l []int
	for i := range g.Cells {
		l = append(l, i)
	}
	return l
}

func TestRings(t *testing.T) {
	for _, c := range []struct {
		g    api.Grid
		want [][]int
	}{
		{drawn("."), nil}, {drawn(">"), [][]int{{0}}}, {drawn("^"), [][]int{{0}}}, {drawn("v", ".", "<", "v"), [][]int{{1}}}, {drawn(".^v>"), [][]int{{1}, {2}}},
		{drawn("><"), [][]int{{0, 1}}}, {drawn(">><>"), [][]int{{1, 2}}}, {drawn("<<<"), [][]int{{0, 2, 1}}}, {drawn(">>>"), [][]int{{0, 1, 2}}},
		{drawn(">v", "^<"), [][]int{{0, 2, 3, 1}}}, {drawn("v<", ">^"), [][]int{{0, 1, 3, 2}}}, {drawn(">>", "<<"), [][]int{{0, 1}, {2, 3}}},
		// The path from the cell 0 comes to the later ring first.
		{drawn("^.v.", "^.v.", ">^><"), [][]int{{2, 3}}}, {drawn("><.", "^.>", "^><"), [][]int{{1, 2}, {6, 7}}}, {drawn(">v", "^<", "^>"), [][]int{{2, 4, 5, 3}}},
	} {
		if l, e := field.Rings(c.g); !sameLists(l, c.want) || e != api.OK {
			t.Errorf("%v: Rings = %v, %d, want %v", c.g, l, e, c.want)
		}
	}
}

// TestRingsAsWritten: on a ring are the cells to which the way from them leads again.
func TestRingsAsWritten(t *testing.T) {
	found := 0
	for _, g := range slices.Concat(grids(), smallGrids()) {
		var want [][]int
		for start := range g.Cells {
			path := []int{start}
			i := ahead(g, start)
			for i > start && len(path) < len(g.Cells) {
				path = append(path, i)
				i = ahead(g, i)
			}
			// A ring is found from its least cell.
			if i == start {
				want = append(want, path)
			}
		}
		if l, e := field.Rings(g); !sameLists(l, want) || e != api.OK {
			t.Fatalf("%v: Rings = %v, %d, want %v", g, l, e, want)
		}
		found += len(want)
	}
	if found < 1000 {
		t.Errorf("only %d rings", found)
	}
}

func TestPicture(t *testing.T) {
	pictures := [][]string{{"."}, {">"}, {"^"}, {"<"}, {"v"}, {">.<", "^.v"}, {"..", "^.", "v>"}, {"v", "^"}, {"<<>>.."}}
	for _, rows := range pictures {
		want := strings.Join(rows, "\n") + "\n"
		if s := field.Picture(drawn(rows...)); s != want {
			t.Errorf("Picture = %q, want %q", s, want)
		}
	}
	if s := field.Picture(read(t, "2 2\n1 1 0 0\n0 2 2 2\n0 0 2 2\n3 3 3 3\n")); s != "<>\n>^\n" {
		t.Errorf("Picture = %q", s)
	}
}

func TestPictureAsWritten(t *testing.T) {
	for _, g := range slices.Concat(grids(), smallGrids()) {
		var want string
		for y := range g.High {
			row := ""
			for x := range g.Wide {
				row += string(".>^<v"[1+mainOf(g.Cells[x+g.Wide*y])])
			}
			want = row + "\n" + want
		}
		if s := field.Picture(g); s != want {
			t.Fatalf("Picture = %q, want %q", s, want)
		}
	}
}

func TestPathErrors(t *testing.T) {
	for _, g := range []api.Grid{filled(3, 2, 1, 9, 1), empty(3, 2), empty(1, 1)} {
		for _, p := range append(badPoints(g), at(math.MinInt, math.MinInt), at(math.MaxInt, math.MaxInt)) {
			if dir, e := field.Main(g, p); dir != 0 || e != api.ErrRange {
				t.Errorf("Main at %v = %d, %d", p, dir, e)
			}
			if l, came, e := field.Path(g, p); len(l) != 0 || came || e != api.ErrRange {
				t.Errorf("Path from %v = %v, %v, %d", p, l, came, e)
			}
		}
	}
	for _, g := range invalidGrids() {
		for _, p := range []api.Point{at(0, 0), at(-1, 0), at(0, math.MaxInt)} {
			if dir, e := field.Main(g, p); dir != 0 || e != api.ErrInvalid {
				t.Errorf("%v: Main = %d, %d", g, dir, e)
			}
			if l, came, e := field.Path(g, p); len(l) != 0 || came || e != api.ErrInvalid {
				t.Errorf("%v: Path = %v, %v, %d", g, l, came, e)
			}
		}
		if l, e := field.Sinks(g); len(l) != 0 || e != api.ErrInvalid {
			t.Errorf("%v: Sinks = %v, %d", g, l, e)
		}
		if l, e := field.Rings(g); len(l) != 0 || e != api.ErrInvalid {
			t.Errorf("%v: Rings = %v, %d", g, l, e)
		}
		if s := field.Picture(g); s != "" {
			t.Errorf("%v: Picture = %q", g, s)
		}
	}
}
