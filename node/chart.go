package node

import (
	"iter"
	"slices"

	"slipstream/api"
	"slipstream/grid"
)

// chart is a valid map of a valid grid, with what it tells of nodes and cells.
type chart struct {
	owner []int
	// nodes own something; they are ascending.
	nodes []int
	// own has the cells of each node, ascending, and place tells of each cell where it is among those of its node.
	own   [api.MaxNodes][]int
	place []int
	// from and to have for each cell and direction the cells from which particles come into it, and into which they go.
	from, to []api.Cell
}

// chartOf returns the chart of a map.
func chartOf(g api.Grid, owner []int) (*chart, api.Errno) {
	if !grid.Valid(g) || len(owner) != len(g.Cells) {
		return nil, api.ErrInvalid
	}
	c := &chart{owner: owner}
	for i, node := range owner {
		if node < 0 || node >= api.MaxNodes {
			return nil, api.ErrInvalid
		}
		c.place = append(c.place, len(c.own[node]))
		c.own[node] = append(c.own[node], i)
	}
	for node, cells := range c.own {
		if len(cells) > 0 {
			c.nodes = append(c.nodes, node)
		}
	}
	c.from, c.to = ways(g)
	return c, api.OK
}

// ways returns for each cell and direction the cells from which particles come into it, and into which they go.
// They come from moving a grid of which each population is the number of its cell; all these numbers together are below the limit of mass.
func ways(g api.Grid) (from, to []api.Cell) {
	numbered := api.Grid{Wide: g.Wide, High: g.High}
	for i := range g.Cells {
		numbered.Cells = append(numbered.Cells, api.Cell{i, i, i, i})
	}
	forth, _ := grid.Stream(numbered)
	back, _ := grid.Unstream(numbered)
	return forth.Cells, back.Cells
}

// rank returns the place of a node among those that own something; false if it owns nothing.
func (c *chart) rank(node int) (int, bool) {
	return slices.BinarySearch(c.nodes, node)
}

// due yields the notes that are due to a node for a step, in ascending order of cell, then of direction. None are for the step 0.
func (c *chart) due(node, step int) iter.Seq[api.Note] {
	return func(yield func(api.Note) bool) {
		if step == 0 {
			return
		}
		for _, i := range c.own[node] {
			for dir, from := range c.from[i] {
				sender := c.owner[from]
				if sender != node && !yield(api.Note{Step: step, From: sender, To: node, Cell: i, Dir: dir}) {
					return
				}
			}
		}
	}
}

// split returns the sites of all nodes, with what a list has of each cell.
func (c *chart) split(cells []api.Cell) []api.Site {
	var l []api.Site
	for _, node := range c.nodes {
		s := api.Site{Node: node, Index: slices.Clone(c.own[node])}
		for _, i := range s.Index {
			s.Cells = append(s.Cells, cells[i])
		}
		l = append(l, s)
	}
	return l
}

// isSite reports whether s is as the site of its node, which owns something.
func (c *chart) isSite(s api.Site) bool {
	if s.Step < 0 || s.Step > api.MaxStep || len(s.Cells) != len(s.Index) {
		return false
	}
	_, ok := total([]api.Site{s}, nil)
	return ok && slices.Equal(s.Index, c.own[s.Node])
}

// areSites reports whether there is a site as it should be for each node, and not too much mass in all of them.
func (c *chart) areSites(l []api.Site) bool {
	if len(l) != len(c.nodes) {
		return false
	}
	for at, s := range l {
		if s.Node != c.nodes[at] || !c.isSite(s) {
			return false
		}
	}
	_, ok := total(l, nil)
	return ok
}
