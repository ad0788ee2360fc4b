package wall_test

import (
	"slices"
	"testing"

	"slipstream/api"
	"slipstream/grid"
	"slipstream/wall"
)

func TestBodiesAndCells(t *testing.T) {
	for _, x := range places() {
		var bodies []int
		for body := 1; body <= api.MaxBodies; body++ {
			var want []int
			for i, b := range x.w.Body {
				if b == body {
					want = append(want, i)
				}
			}
			if len(want) > 0 {
				bodies = append(bodies, body)
			}
			if l, e := wall.Cells(x.g, x.w, body); !slices.Equal(l, want) || e != api.OK {
				t.Fatalf("Cells of the body %d = %v, %d, want %v", body, l, e, want)
			}
		}
		if l, e := wall.Bodies(x.g, x.w); !slices.Equal(l, bodies) || e != api.OK {
			t.Fatalf("Bodies = %v, %d, want %v", l, e, bodies)
		}
	}
}

func TestBodiesExamples(t *testing.T) {
	x := drawn(t, ".i.", "j.A", "q..")
	if l, e := wall.Bodies(x.g, x.w); !slices.Equal(l, []int{1, 8, 9}) || e != api.OK {
		t.Errorf("Bodies = %v, %d", l, e)
	}
	if l, e := wall.Cells(x.g, x.w, 1); !slices.Equal(l, []int{3, 5}) || e != api.OK {
		t.Errorf("Cells = %v, %d", l, e)
	}
	if l, e := wall.Cells(x.g, x.w, 2); len(l) != 0 || e != api.OK {
		t.Errorf("Cells = %v, %d", l, e)
	}
	w, e := wall.Removed(x.g, x.w, 1)
	checkWall(t, "Removed", drawn(t, ".i.", "...", "q.."), w, e)
}

func TestRemoved(t *testing.T) {
	for _, x := range places() {
		for body := 1; body <= api.MaxBodies; body++ {
			want, found := opened(x.g), false
			for i, b := range x.w.Body {
				if b != body {
					want.Kind[i], want.Body[i] = x.w.Kind[i], b
				} else {
					found = true
				}
			}
			w, e := wall.Removed(x.g, x.w, body)
			if found && (e != api.OK || !equalWalls(w, want)) {
				t.Fatalf("Removed of the body %d from %v = %v, %d", body, x.w, w, e)
			}
			if !found && (e != api.ErrNone || !isZeroWall(w)) {
				t.Fatalf("Removed of the body %d, which has no cells, = %v, %d", body, w, e)
			}
		}
	}
}

func TestBodyErrors(t *testing.T) {
	g := filled(3, 2, 4, 1)
	w := uniform(g, api.WSlash, 2)
	for _, body := range append(badNumbers(), 0, api.MaxBodies+1) {
		if l, e := wall.Cells(g, w, body); len(l) != 0 || e != api.ErrRange {
			t.Errorf("Cells of the body %d = %v, %d", body, l, e)
		}
		if r, e := wall.Removed(g, w, body); !isZeroWall(r) || e != api.ErrRange {
			t.Errorf("Removed of the body %d = %v, %d", body, r, e)
		}
	}
}

func TestMirrored(t *testing.T) {
	x := drawn(t, "aj.A", ".Irb", "cC..")
	w, e := wall.Mirrored(x.g, x.w)
	checkWall(t, "Mirrored", drawn(t, "j.Aa", "bIr.", "..lc"), w, e)
}

func TestMirroredAsWritten(t *testing.T) {
	for _, x := range places() {
		m := done[api.Wall](t)(wall.Mirrored(x.g, x.w))
		for i, p := range points(x.g) {
			j := x.g.Wide - 1 - p.X + x.g.Wide*p.Y
			kind := map[int]int{api.WOpen: api.WOpen, api.WBack: api.WBack, api.WSlash: api.WBlash, api.WBlash: api.WSlash}[x.w.Kind[i]]
			if m.Kind[j] != kind || m.Body[j] != x.w.Body[i] {
				t.Fatalf("Mirrored of %v = %v", x.w, m)
			}
		}
		if !equalWalls(done[api.Wall](t)(wall.Mirrored(x.g, m)), x.w) {
			t.Fatalf("mirrored twice %v is another wall", x.w)
		}
	}
}

// TestMirroredSteps: RShift tells east-west from north-south, and goes with Mirrored as well; the promise is about the others.
func TestMirroredSteps(t *testing.T) {
	for _, x := range places() {
		for _, l := range [][]api.Rule{{none()}, {turn()}, {turn(), none(), turn()}} {
			g := done[api.Grid](t)(grid.Mirrored(x.g))
			w := done[api.Wall](t)(wall.Mirrored(x.g, x.w))
			first := done[api.Grid](t)(wall.Run(g, w, l, 1, 3))
			second := done[api.Grid](t)(grid.Mirrored(done[api.Grid](t)(wall.Run(x.g, x.w, l, 1, 3))))
			if !equal(first, second) {
				t.Fatalf("%d by %d with %v: mirrored steps are others", x.g.Wide, x.g.High, l)
			}
		}
	}
}

func TestClosedDrawn(t *testing.T) {
	x := drawn(t,
		".......",
		".aaaaa.",
		".a...a.",
		".aaa.a.",
		".a.aaa.",
		".aaa...",
		".......")
	outside := []int{0, 1, 2, 3, 4, 5, 6, 7, 11, 12, 13, 14, 20, 21, 27, 28, 34, 35, 41, 42, 43, 44, 45, 46, 47, 48}
	for _, c := range []struct {
		p    api.Point
		want []int
	}{
		{api.Point{}, outside},
		{api.Point{X: 4, Y: 1}, outside},
		{api.Point{X: 6, Y: 6}, outside},
		{api.Point{X: 2, Y: 2}, []int{16}},
		{api.Point{X: 4, Y: 3}, []int{25, 30, 31, 32}},
		{api.Point{X: 2, Y: 4}, []int{25, 30, 31, 32}},
	} {
		if l, e := wall.Closed(x.g, x.w, c.p); !slices.Equal(l, c.want) || e != api.OK {
			t.Errorf("Closed from %v = %v, %d, want %v", c.p, l, e, c.want)
		}
	}
	// Round the sides: columns of walls alone do not part a grid, two do.
	x = drawn(t, ".a...", ".j...", ".A...")
	if l, e := wall.Closed(x.g, x.w, api.Point{X: 0, Y: 1}); len(l) != 12 || e != api.OK {
		t.Errorf("Closed = %v, %d", l, e)
	}
	x = drawn(t, ".a.b.", ".j.k.", ".A.B.")
	if l, e := wall.Closed(x.g, x.w, api.Point{X: 0, Y: 1}); !slices.Equal(l, []int{0, 4, 5, 9, 10, 14}) || e != api.OK {
		t.Errorf("Closed = %v, %d", l, e)
	}
	x = drawn(t, "...", "cCl", "...", "ddd", "...")
	if l, e := wall.Closed(x.g, x.w, api.Point{X: 1, Y: 4}); !slices.Equal(l, []int{0, 1, 2, 12, 13, 14}) || e != api.OK {
		t.Errorf("Closed = %v, %d", l, e)
	}
}

// reachable lets the numbers of the cells spread until no open cell has an open neighbour with a smaller number: then those with one number are closed.
func reachable(g api.Grid, w api.Wall) []int {
	number := make([]int, len(g.Cells))
	for i := range number {
		number[i] = i
	}
	for changed := true; changed; {
		changed = false
		for i, p := range points(g) {
			for _, n := range []api.Point{{X: p.X + 1, Y: p.Y}, {X: p.X, Y: p.Y + 1}, {X: p.X - 1, Y: p.Y}, {X: p.X, Y: p.Y - 1}} {
				j := mod(n.X, g.Wide) + g.Wide*mod(n.Y, g.High)
				if w.Kind[i] == api.WOpen && w.Kind[j] == api.WOpen && number[j] < number[i] {
					number[i], changed = number[j], true
				}
			}
		}
	}
	return number
}

func TestClosedAsWritten(t *testing.T) {
	for _, s := range sides() {
		g := filled(s[0], s[1], 3, 1)
		for _, w := range append(validWalls(g), sparse(g, 2, 11), sparse(g, 2, 12)) {
			number := reachable(g, w)
			for i, p := range points(g) {
				l, e := wall.Closed(g, w, p)
				if w.Kind[i] != api.WOpen {
					if len(l) != 0 || e != api.ErrWall {
						t.Fatalf("Closed from a wall = %v, %d", l, e)
					}
					continue
				}
				var want []int
				for j, n := range number {
					if w.Kind[j] == api.WOpen && n == number[i] {
						want = append(want, j)
					}
				}
				if !slices.Equal(l, want) || e != api.OK {
					t.Fatalf("Closed from %v = %v, %d, want %v", p, l, e, want)
				}
			}
		}
	}
}

func TestClosedErrors(t *testing.T) {
	g := filled(4, 3, 3, 1)
	for _, p := range badPoints(g) {
		for _, w := range []api.Wall{opened(g), uniform(g, api.WBack, 1)} {
			if l, e := wall.Closed(g, w, p); len(l) != 0 || e != api.ErrRange {
				t.Errorf("Closed from %v = %v, %d", p, l, e)
			}
		}
	}
}
