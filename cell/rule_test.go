package cell_test

import (
	"math"
	"slices"
	"testing"

	"slipstream/api"
	"slipstream/cell"
)

func TestValidRule(t *testing.T) {
	for _, r := range validRules() {
		if !cell.ValidRule(r) {
			t.Errorf("%v is not valid", r)
		}
	}
	for _, r := range invalidRules() {
		if cell.ValidRule(r) {
			t.Errorf("%v is valid", r)
		}
	}
}

func TestValidRules(t *testing.T) {
	for n := 1; n <= api.MaxRules; n++ {
		if l := validRules()[:n]; !cell.ValidRules(l) {
			t.Errorf("%v are not valid", l)
		}
	}
	for _, l := range invalidLists() {
		if cell.ValidRules(l) {
			t.Errorf("%v are valid", l)
		}
	}
}

func TestInverse(t *testing.T) {
	for _, r := range validRules() {
		want := api.Rule{Kind: r.Kind, By: -r.By}
		if back, e := cell.Inverse(r); back != want || e != api.OK {
			t.Errorf("Inverse(%v) = %v, %d", r, back, e)
		}
	}
	for _, r := range invalidRules() {
		if back, e := cell.Inverse(r); back != (api.Rule{}) || e != api.ErrInvalid {
			t.Errorf("Inverse(%v) = %v, %d", r, back, e)
		}
	}
}

func TestAt(t *testing.T) {
	for n := 1; n <= api.MaxRules; n++ {
		l := validRules()[2 : 2+n]
		for _, step := range []int{0, 1, 2, 3, 4, 5, 6, 7, 8, 9, 10, 11, 100, 999999, api.MaxStep} {
			if r, e := cell.At(l, step); r != l[step%n] || e != api.OK {
				t.Errorf("At(%v, %d) = %v, %d", l, step, r, e)
			}
		}
		for _, step := range []int{-1, -n, api.MaxStep + 1, math.MinInt, math.MaxInt} {
			if r, e := cell.At(l, step); r != (api.Rule{}) || e != api.ErrRange {
				t.Errorf("At(%v, %d) = %v, %d", l, step, r, e)
			}
		}
	}
	for _, l := range invalidLists() {
		for _, step := range []int{0, 1, -1, api.MaxStep + 1} {
			if r, e := cell.At(l, step); r != (api.Rule{}) || e != api.ErrInvalid {
				t.Errorf("At(%v, %d) = %v, %d", l, step, r, e)
			}
		}
	}
}

func TestRulesAreNotModified(t *testing.T) {
	for _, memory := range [][]api.Rule{
		{turn(), shift(2), {Kind: 5}, {Kind: 6}},
		{turn(), {Kind: 3}, {Kind: 5}, {Kind: 6}},
	} {
		before := slices.Clone(memory)
		l := memory[:2]
		cell.ValidRules(l)
		cell.At(l, 3)
		cell.At(l, -1)
		cell.Format(l)
		if !slices.Equal(memory, before) {
			t.Errorf("%v became %v", before, memory)
		}
	}
}
