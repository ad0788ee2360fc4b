package wall_test

import (
	"math"
	"testing"

	"slipstream/api"
	"slipstream/wall"
)

// drawn returns the wall that is written as rows, the topmost one first, as one looks at it.
func drawn(t *testing.T, rows ...string) both {
	t.Helper()
	g := filled(len(rows[0]), len(rows), 3, 1)
	text := ""
	for _, row := range rows {
		text = row + "\n" + text
	}
	w, line, e := wall.Parse(g, text)
	if e != api.OK {
		t.Fatalf("Parse(%q): %d in line %d", text, e, line)
	}
	return both{g, w}
}

func checkWall(t *testing.T, name string, want both, w api.Wall, e api.Errno) {
	t.Helper()
	if e != api.OK || !equalWalls(w, want.w) {
		t.Errorf("%s, error %d:\n%swant\n%s", name, e, wall.Format(want.g, w), wall.Format(want.g, want.w))
	}
}

func TestShapesDrawn(t *testing.T) {
	x := drawn(t, ".......", "..bbb..", ".bbbbb.", ".bbbbb.", ".bbbbb.", "..bbb..", ".......")
	w, e := wall.Disc(x.g, opened(x.g), api.Point{X: 3, Y: 3}, 5, 2)
	checkWall(t, "Disc", x, w, e)
	x = drawn(t, ".......", "..kbB..", ".kbbbB.", ".bbbbb.", ".Bbbbk.", "..Bbk..", ".......")
	w, e = wall.Smooth(x.g, opened(x.g), api.Point{X: 3, Y: 3}, 5, 2)
	checkWall(t, "Smooth", x, w, e)
	// The sides of the grid cut the disc: what is beyond them is not in it.
	x = drawn(t, "i.....", "iI....", "iii...", "Ir....")
	w, e = wall.Smooth(x.g, opened(x.g), api.Point{X: 0, Y: 1}, 4, 9)
	checkWall(t, "Smooth at the sides", x, w, e)
	x = drawn(t, "....", "qqqq", "qqqq", "....")
	for _, c := range [][2]api.Point{{{X: 0, Y: 1}, {X: 3, Y: 2}}, {{X: 3, Y: 2}, {X: 0, Y: 1}}, {{X: 0, Y: 2}, {X: 3, Y: 1}}, {{X: 3, Y: 1}, {X: 0, Y: 2}}} {
		w, e = wall.Box(x.g, opened(x.g), c[0], c[1], api.WSlash, 8)
		checkWall(t, "Box", x, w, e)
	}
	x = drawn(t, "...j.", "..j..", ".j...")
	for _, n := range []int{3, 4, api.MaxSide} {
		w, e = wall.Slope(x.g, opened(x.g), api.Point{X: 1}, n, true, 1)
		checkWall(t, "Slope up", x, w, e)
	}
	w, e = wall.Slope(x.g, opened(x.g), api.Point{X: 1}, 2, true, 1)
	checkWall(t, "Slope of 2", drawn(t, ".....", "..j..", ".j..."), w, e)
	w, e = wall.Slope(x.g, opened(x.g), api.Point{X: 3, Y: 2}, 9, false, 9)
	checkWall(t, "Slope down", drawn(t, "...I.", "....I", "....."), w, e)
}

// sizes returns sides that are small enough to try all points.
func sizes() [][2]int {
	return [][2]int{{1, 1}, {2, 1}, {1, 3}, {2, 2}, {3, 3}, {4, 3}, {5, 5}, {6, 4}, {3, 7}}
}

func points(g api.Grid) []api.Point {
	var l []api.Point
	for i := range g.Cells {
		l = append(l, api.Point{X: i % g.Wide, Y: i / g.Wide})
	}
	return l
}

// discWritten returns a disc as section 'Shapes' writes it.
func discWritten(g api.Grid, p api.Point, q, body int) api.Wall {
	w := opened(g)
	for i, c := range points(g) {
		if (c.X-p.X)*(c.X-p.X)+(c.Y-p.Y)*(c.Y-p.Y) <= q {
			w.Kind[i], w.Body[i] = api.WBack, body
		}
	}
	return w
}

// smoothWritten returns a smooth disc as section 'Shapes' writes it.
func smoothWritten(g api.Grid, p api.Point, q, body int) api.Wall {
	w := discWritten(g, p, q, body)
	flat := discWritten(g, p, q, body)
	out := func(x, y int) bool {
		return x < 0 || y < 0 || x >= g.Wide || y >= g.High || flat.Kind[x+g.Wide*y] == api.WOpen
	}
	for i, c := range points(g) {
		if flat.Kind[i] == api.WOpen {
			continue
		}
		missing := ""
		for dir, n := range []api.Point{{X: c.X + 1, Y: c.Y}, {X: c.X, Y: c.Y + 1}, {X: c.X - 1, Y: c.Y}, {X: c.X, Y: c.Y - 1}} {
			if out(n.X, n.Y) {
				missing += "ENWS"[dir : dir+1]
			}
		}
		switch missing {
		case "NW", "ES":
			w.Kind[i] = api.WSlash
		case "EN", "WS":
			w.Kind[i] = api.WBlash
		}
	}
	return w
}

func radii() []int { return []int{0, 1, 2, 3, 4, 5, 8, 9, 10, 13, 25, 40, 100, 10000} }

func TestDiscsAsWritten(t *testing.T) {
	for _, s := range sizes() {
		g := filled(s[0], s[1], 3, 1)
		for _, p := range points(g) {
			for i, q := range radii() {
				body := 1 + i%api.MaxBodies
				w, e := wall.Disc(g, opened(g), p, q, body)
				checkWall(t, "Disc", both{g, discWritten(g, p, q, body)}, w, e)
				w, e = wall.Smooth(g, opened(g), p, q, body)
				checkWall(t, "Smooth", both{g, smoothWritten(g, p, q, body)}, w, e)
			}
		}
	}
}

func TestGreatDiscs(t *testing.T) {
	for _, s := range [][2]int{{64, 16}, {16, 64}, {64, 1}, {32, 32}} {
		g := filled(s[0], s[1], 3, 1)
		for _, p := range []api.Point{{}, {X: s[0] - 1, Y: s[1] - 1}, {X: s[0] / 2, Y: s[1] / 3}} {
			for _, q := range []int{0, 7, 50, 200, 2000, 4194, 10000} {
				w, e := wall.Disc(g, opened(g), p, q, 4)
				checkWall(t, "Disc", both{g, discWritten(g, p, q, 4)}, w, e)
				w, e = wall.Smooth(g, opened(g), p, q, 4)
				checkWall(t, "Smooth", both{g, smoothWritten(g, p, q, 4)}, w, e)
			}
		}
	}
}

func TestDiscsAreMirrored(t *testing.T) {
	for _, s := range [][2]int{{1, 1}, {3, 2}, {5, 5}, {7, 3}, {9, 9}, {31, 33}, {63, 16}} {
		g := filled(s[0], s[1], 3, 1)
		for y := range g.High {
			for _, q := range radii() {
				for _, do := range []func(api.Grid, api.Wall, api.Point, int, int) (api.Wall, api.Errno){wall.Disc, wall.Smooth} {
					w := done[api.Wall](t)(do(g, opened(g), api.Point{X: g.Wide / 2, Y: y}, q, 3))
					m := done[api.Wall](t)(wall.Mirrored(g, w))
					if !equalWalls(m, w) {
						t.Fatalf("%v about the row %d with %d is not its own mirror image:\n%s%s", s, y, q, wall.Format(g, w), wall.Format(g, m))
					}
				}
			}
		}
	}
}

func TestGreaterDiscs(t *testing.T) {
	for _, s := range sizes() {
		g := filled(s[0], s[1], 3, 1)
		for _, p := range points(g) {
			for _, do := range []func(api.Grid, api.Wall, api.Point, int, int) (api.Wall, api.Errno){wall.Disc, wall.Smooth} {
				before := opened(g)
				for q := range 90 {
					w := done[api.Wall](t)(do(g, opened(g), p, q, 1))
					for i, body := range before.Body {
						if body == 1 && w.Body[i] != 1 {
							t.Fatalf("a disc with %d leaves the cell %d out", q, i)
						}
					}
					before = w
				}
			}
		}
	}
}

func TestBoxesAndSlopesAsWritten(t *testing.T) {
	for _, s := range sizes() {
		g := filled(s[0], s[1], 3, 1)
		for i, p := range points(g) {
			for j, q := range points(g) {
				kind, body := 1+(i+j)%3, 1+(i*j)%9
				want := opened(g)
				for y := min(p.Y, q.Y); y <= max(p.Y, q.Y); y++ {
					for x := min(p.X, q.X); x <= max(p.X, q.X); x++ {
						want.Kind[x+g.Wide*y], want.Body[x+g.Wide*y] = kind, body
					}
				}
				w, e := wall.Box(g, opened(g), p, q, kind, body)
				checkWall(t, "Box", both{g, want}, w, e)
			}
			for _, n := range []int{1, 2, 3, 5, 63, 64} {
				for _, up := range []bool{true, false} {
					want, rise, kind := opened(g), -1, api.WBlash
					if up {
						rise, kind = 1, api.WSlash
					}
					for k := range n {
						if x, y := p.X+k, p.Y+rise*k; x < g.Wide && 0 <= y && y < g.High {
							want.Kind[x+g.Wide*y], want.Body[x+g.Wide*y] = kind, 7
						}
					}
					w, e := wall.Slope(g, opened(g), p, n, up, 7)
					checkWall(t, "Slope", both{g, want}, w, e)
				}
			}
		}
	}
}

// TestPutInto puts shapes into walls: those of the same body are written over, those of another one are in the way.
func TestPutInto(t *testing.T) {
	refused := 0
	for _, s := range sizes() {
		g := filled(s[0], s[1], 3, 1)
		for _, w := range validWalls(g) {
			for i, p := range points(g) {
				q := points(g)[(i*7+3)%len(g.Cells)]
				for body := 1; body <= api.MaxBodies; body++ {
					for _, c := range putCalls(p, q, 2, api.WBlash, body) {
						alone := done[api.Wall](t)(c.do(g, opened(g)))
						want, blocked := opened(g), false
						for j := range w.Kind {
							want.Kind[j], want.Body[j] = w.Kind[j], w.Body[j]
							if alone.Body[j] != 0 {
								blocked = blocked || w.Body[j] != 0 && w.Body[j] != body
								want.Kind[j], want.Body[j] = alone.Kind[j], body
							}
						}
						got, e := c.do(g, w)
						if blocked {
							refused++
							if e != api.ErrWall || !isZeroWall(got) {
								t.Fatalf("%s into another body: %v, %d", c.name, got, e)
							}
							continue
						}
						checkWall(t, c.name, both{g, want}, got, e)
					}
				}
			}
		}
	}
	if refused == 0 {
		t.Error("no wall was in the way")
	}
}

func TestLastKindStays(t *testing.T) {
	x := drawn(t, ".aaa.", ".aAj.", ".aaa.")
	w := done[api.Wall](t)(wall.Box(x.g, opened(x.g), api.Point{X: 1}, api.Point{X: 3, Y: 2}, api.WSlash, 1))
	w = done[api.Wall](t)(wall.Box(x.g, w, api.Point{X: 2, Y: 1}, api.Point{X: 3, Y: 1}, api.WBlash, 1))
	w = done[api.Wall](t)(wall.Slope(x.g, w, api.Point{X: 3, Y: 1}, 1, true, 1))
	for _, y := range []int{0, 2} {
		w = done[api.Wall](t)(wall.Box(x.g, w, api.Point{X: 3, Y: y}, api.Point{X: 1, Y: y}, api.WBack, 1))
	}
	w, e := wall.Disc(x.g, w, api.Point{X: 1, Y: 1}, 0, 1)
	checkWall(t, "one after the other", x, w, e)
}

func TestPutErrors(t *testing.T) {
	g := filled(4, 3, 3, 1)
	check := func(name string, p, q api.Point, number, kind, body int) {
		t.Helper()
		for _, c := range putCalls(p, q, number, kind, body) {
			if name != "" && c.name != name {
				continue
			}
			// In the second wall there is always another body in the way.
			for _, w := range []api.Wall{opened(g), uniform(g, api.WBack, 5)} {
				if got, e := c.do(g, w); e != api.ErrRange || !isZeroWall(got) {
					t.Errorf("%s at %v, %v, %d, %d, %d: %v, %d", c.name, p, q, number, kind, body, got, e)
				}
			}
		}
	}
	on := api.Point{X: 1, Y: 1}
	for _, off := range badPoints(g) {
		check("", off, on, 1, 1, 1)
		check("Box", on, off, 1, 1, 1)
	}
	for _, body := range append(badNumbers(), 0, 10) {
		check("", on, on, 1, 1, body)
	}
	for _, kind := range append(badNumbers(), 0, 4) {
		check("Box", on, on, 1, kind, 1)
	}
	for _, q := range append(badNumbers(), 10001) {
		check("Disc", on, on, q, 1, 1)
		check("Smooth", on, on, q, 1, 1)
	}
	for _, n := range append(badNumbers(), 0, api.MaxSide+1, math.MinInt+1) {
		check("Slope up", on, on, n, 1, 1)
		check("Slope down", on, on, n, 1, 1)
	}
}
