package share_test

import (
	"fmt"
	"math"
	"slices"
	"testing"

	"slipstream/api"
	"slipstream/share"
)

// arguments are those of all calls.
type arguments struct {
	loads, cuts []int
	k, most     int
	bound       int
	proof       [][2]int
	node, by    int
	g           api.Grid
	note        int
}

// right returns arguments with which every call returns something.
func right() arguments {
	return arguments{
		loads: chapter(), cuts: []int{1, 3}, k: 2, most: 8, bound: 7, proof: [][2]int{{0, 2}, {2, 4}}, node: 0, by: 1, g: filled(5, 3, 9, thrown(1)), note: 3,
	}
}

// outcome is what a call returns; scribble writes over its memory.
type outcome struct {
	name     string
	e        api.Errno
	zero     bool
	text     string
	scribble func()
}

// spoil writes over a list and what is behind it in its memory.
func spoil[T any](l []T, junk T) {
	for i := range l[:cap(l)] {
		l[:cap(l)][i] = junk
	}
}

// outcomes calls everything.
func outcomes(x arguments) []outcome {
	var l []outcome
	add := func(name string, e api.Errno, zero bool, result any) {
		l = append(l, outcome{name, e, zero, fmt.Sprint(result, e), func() {}})
	}
	addList := func(name string) func([]int, api.Errno) {
		return func(list []int, e api.Errno) {
			add(name, e, len(list) == 0, list)
			l[len(l)-1].scribble = func() { spoil(list, -9) }
		}
	}
	addNumber := func(name string) func(int, api.Errno) {
		return func(n int, e api.Errno) { add(name, e, n == 0, n) }
	}
	addList("Loads")(share.Loads(x.g))
	addList("Weights")(share.Weights(x.loads, x.cuts))
	addNumber("Peak")(share.Peak(x.loads, x.cuts))
	addNumber("Least")(share.Least(x.loads, x.k))
	addList("Best")(share.Best(x.loads, x.k))
	is, e := share.Fits(x.loads, x.k, x.most)
	add("Fits", e, !is, is)
	addList("Greedy")(share.Greedy(x.loads, x.most))
	proof, e := share.Proof(x.loads, x.k)
	add("Proof", e, len(proof) == 0, proof)
	l[len(l)-1].scribble = func() { spoil(proof, [2]int{-9, -9}) }
	addNumber("Nodes")(share.Nodes(x.loads, x.most))
	addList("Moved")(share.Moved(x.loads, x.cuts, x.node, x.by))
	addList("Spare")(share.Spare(x.loads, x.cuts))
	addList("Even")(share.Even(x.loads, x.k))
	best, n, e := share.Rebalanced(x.loads, x.cuts)
	add("Rebalanced", e, len(best) == 0 && n == 0, fmt.Sprint(best, n))
	l[len(l)-1].scribble = func() { spoil(best, -9) }
	addList("Map")(share.Map(x.g, x.cuts))
	addNumber("Cost")(share.Cost(x.g, x.cuts, x.note))
	text := share.Format(x.cuts)
	addList("Parse")(share.Parse(text))
	add("calls that only tell", api.OK, false, fmt.Sprint(share.Valid(x.loads), share.Proves(x.loads, x.k, x.bound, x.proof), text))
	return l
}

func TestRight(t *testing.T) {
	for _, o := range outcomes(right()) {
		if o.e != api.OK || o.zero {
			t.Errorf("%s = %s", o.name, o.text)
		}
	}
	if x := right(); !share.Proves(x.loads, x.k, x.bound, x.proof) {
		t.Error("Proves of a proof")
	}
}

// TestNewMemory writes over all results, and looks whether an argument has changed, its spare capacity included, or the next results.
func TestNewMemory(t *testing.T) {
	x := right()
	loads, cuts := append(x.loads, 6, 7), append(x.cuts, 4, 4)
	proof, cells := append(x.proof, [2]int{1, 2}), append(x.g.Cells, api.Cell{7}, api.Cell{8})
	beforeLoads, beforeCuts, beforeProof, beforeCells := slices.Clone(loads), slices.Clone(cuts), slices.Clone(proof), slices.Clone(cells)
	x.loads, x.cuts, x.proof, x.g.Cells = loads[:len(x.loads)], cuts[:len(x.cuts)], proof[:len(x.proof)], cells[:len(x.g.Cells)]
	first := outcomes(x)
	for _, o := range first {
		o.scribble()
	}
	if !slices.Equal(loads, beforeLoads) || !slices.Equal(cuts, beforeCuts) || !slices.Equal(proof, beforeProof) || !slices.Equal(cells, beforeCells) {
		t.Error("arguments have changed")
	}
	for i, o := range outcomes(x) {
		if o.text != first[i].text {
			t.Errorf("%s gives %s, and then %s", o.name, first[i].text, o.text)
		}
	}
}

// TestNilIsEmpty: nil and empty lists are the same.
func TestNilIsEmpty(t *testing.T) {
	for _, withLoads := range []bool{true, false} {
		x, y := right(), right()
		x.cuts, x.proof, y.cuts, y.proof = nil, nil, []int{}, [][2]int{}
		if !withLoads {
			x.loads, x.g.Cells, y.loads, y.g.Cells = nil, nil, []int{}, []api.Cell{}
		}
		are := outcomes(y)
		for i, o := range outcomes(x) {
			if o.text != are[i].text {
				t.Errorf("%s of nil gives %s, of an empty list %s", o.name, o.text, are[i].text)
			}
		}
	}
}

// TestSameAgain: the same call gives the same result each time.
func TestSameAgain(t *testing.T) {
	for _, loads := range greatLoads() {
		x := right()
		x.loads, x.k = loads, 6
		x.cuts = thrownShare(len(loads), 6, thrown(3))
		first := outcomes(x)
		for range 5 {
			for i, o := range outcomes(x) {
				if o.text != first[i].text {
					t.Fatalf("%s gives %s, and then %s", o.name, first[i].text, o.text)
				}
			}
		}
	}
}

// TestWild gives calls numbers beyond all ranges, several at once: they all return, and with an error nothing else.
func TestWild(t *testing.T) {
	next := thrown(21)
	numbers := []int{0, 1, 2, 3, 4, 5, 6, 7, 15, 16, 17, -1, 63, 64, 65, most, most + 1, -most, all, all + 1, 1 << 62, math.MaxInt, math.MinInt}
	wild := func() int { return numbers[next(len(numbers))] }
	list := func() []int {
		l := make([]int, next(20))
		for i := range l {
			l[i] = wild()
		}
		return l
	}
	for range 20000 {
		x := right()
		for range 1 + next(3) {
			switch next(9) {
			case 0:
				x.loads[next(len(x.loads))] = wild()
			case 1:
				x.loads = append(list(), 1)
			case 2:
				x.cuts = list()
			case 3:
				x.k, x.bound = wild(), wild()
			case 4:
				x.most, x.note = wild(), wild()
			case 5:
				x.proof[next(2)] = [2]int{wild(), wild()}
			case 6:
				x.node, x.by = wild(), wild()
			case 7:
				x.g.Wide, x.g.High = wild(), wild()
			case 8:
				x.g.Cells[next(len(x.g.Cells))][next(4)] = wild()
			}
		}
		for _, o := range outcomes(x) {
			if o.e < api.OK || o.e > api.ErrCommand || o.e != api.OK && !o.zero {
				t.Fatalf("%s of %v gives %s", o.name, x, o.text)
			}
		}
	}
}
