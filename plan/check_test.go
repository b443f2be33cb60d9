package plan_test

import (
	"errors"
	"slices"
	"testing"

	"estuary/api"
	"estuary/plan"
)

// expectCheck holds Check of a plan against what is written in the test.
func expectCheck(t *testing.T, p api.Plan, good bool) {
	t.Helper()
	err := plan.Check(p)
	if good && err != nil {
		t.Errorf("Check(%v): %v", p, err)
	}
	if !good && (err != api.ErrPlan || !errors.Is(err, errPlan)) {
		t.Errorf("Check(%v): %v", p, err)
	}
	expectCounts(t, p)
}

// P19.1: the document's numbers are those of package api.
func TestNumbers(t *testing.T) {
	if api.ErrPlan != errPlan {
		t.Error("the error")
	}
	if api.MaxSources != 4 || api.MaxKeepers != 5 || api.MaxRes != 3 || api.MaxShards != 4 {
		t.Error("the limits of nodes and lanes")
	}
	if api.MaxHold != 64 || api.MaxCells != 1024 || api.MaxEntries != 16 || api.MaxLease != 20 {
		t.Error("the limits of what is held")
	}
}

// P19.1: the plans at both ends are good.
func TestCheckTheEnds(t *testing.T) {
	for _, p := range starts() {
		expectCheck(t, p, true)
	}
	expectCheck(t, api.Plan{}, false)
	expectCheck(t, api.Plan{Sources: -1, Keepers: -1, Res: []int{-1}, Shards: -1, Hold: -1, Cells: -1, Batch: -1, Lease: -1}, false)
	expectCheck(t, api.Plan{Sources: greatest, Keepers: greatest, Res: []int{greatest}, Shards: greatest, Hold: greatest, Cells: greatest, Batch: greatest, Lease: greatest}, false)
	expectCheck(t, api.Plan{Sources: least, Keepers: least, Res: []int{least}, Shards: least, Hold: least, Cells: least, Batch: least, Lease: least}, false)
}

// P19.1: each number at its two bounds and one beyond them.
func TestCheckBounds(t *testing.T) {
	for _, c := range []struct {
		at       func(p *api.Plan) *int
		from, to int
	}{
		{func(p *api.Plan) *int { return &p.Sources }, 1, 4},
		{func(p *api.Plan) *int { return &p.Shards }, 1, 4},
		{func(p *api.Plan) *int { return &p.Hold }, 1, 64},
		{func(p *api.Plan) *int { return &p.Cells }, 1, 1024},
		{func(p *api.Plan) *int { return &p.Batch }, 1, 16},
		{func(p *api.Plan) *int { return &p.Lease }, 1, 20},
	} {
		for _, p := range starts() {
			for n, good := range map[int]bool{c.from - 1: false, c.from: true, c.to: true, c.to + 1: false, -c.to: false, least: false, greatest: false} {
				*c.at(&p) = n
				expectCheck(t, p, good)
			}
		}
	}
}

// P19.1: 1, 3 or 5 keepers.
func TestCheckKeepers(t *testing.T) {
	for _, p := range starts() {
		for n, good := range []bool{false, true, false, true, false, true, false, false, false, false} {
			p.Keepers = n
			expectCheck(t, p, good)
		}
		for _, n := range []int{-1, -2, -3, -5, 11, 1<<32 + 3, least, least + 1, greatest, greatest - 1} {
			p.Keepers = n
			expectCheck(t, p, false)
		}
	}
}

// P19.1: 1 to 3 resolutions.
func TestCheckHowManyResolutions(t *testing.T) {
	for _, p := range starts() {
		for n := range 40 {
			p.Res = make([]int, n)
			for i := range p.Res {
				p.Res[i] = 10 * (i + 1)
			}
			expectCheck(t, p, n >= 1 && n <= 3)
		}
		p.Res = nil
		expectCheck(t, p, false)
		p.Res = slices.Repeat([]int{10}, 1<<16+1)
		expectCheck(t, p, false)
	}
}

// P19.1: each resolution is at least 1, and no other thing is asked of it.
func TestCheckEachResolution(t *testing.T) {
	for _, p := range starts() {
		for many := 1; many <= 3; many++ {
			for i := range many {
				for _, r := range edges() {
					p.Res = []int{10, 60, 3600}[:many]
					p.Res[i] = r
					expectCheck(t, p, r >= 1)
				}
			}
		}
	}
	for _, c := range []struct {
		res  []int
		good bool
	}{
		{[]int{1}, true},
		{[]int{1, 1, 1}, true},
		{[]int{60, 10}, true},
		{[]int{7, 3, 5}, true},
		{[]int{greatest, 1, greatest}, true},
		{[]int{10, 60, 10}, true},
		{[]int{0}, false},
		{[]int{-1}, false},
		{[]int{0, 10}, false},
		{[]int{10, 0}, false},
		{[]int{10, 60, -10}, false},
		{[]int{10, 60, 0}, false},
		{[]int{10, -60, 3600}, false},
		{[]int{0, 0, 0}, false},
		{[]int{10, 60, 3600, 0}, false},
		{[]int{least, greatest, greatest}, false},
	} {
		p := ordinary()
		p.Res = c.res
		expectCheck(t, p, c.good)
	}
}

// P19.1: what stands in the spare room of the resolutions is none.
func TestCheckSpareRoom(t *testing.T) {
	p := ordinary()
	for _, room := range [][]int{{10, 60, -1, 0}, {10, 60, 5, 5, 5, 5}, {10, 60}} {
		p.Res = room[:2]
		expectCheck(t, p, true)
		p.Res = room[:0]
		expectCheck(t, p, false)
	}
}

// P19.1: each number at all of the edges, with the others good.
func TestCheckEachNumber(t *testing.T) {
	for _, f := range fields {
		for _, p := range starts() {
			for _, n := range edges() {
				*f.at(&p) = n
				expectCheck(t, p, slices.Contains(f.good, n))
			}
			for n := -3; n <= 1100; n++ {
				*f.at(&p) = n
				expectCheck(t, p, slices.Contains(f.good, n))
			}
		}
	}
}

// P19.1: any two numbers, each of them at its bounds and beyond them: no number is held against another one, and one good number doesn't mend another one.
func TestCheckTwoNumbers(t *testing.T) {
	near := func(f field) []int {
		last := f.good[len(f.good)-1]
		return []int{-1, 0, 1, 2, last - 1, last, last + 1, greatest}
	}
	for _, a := range fields {
		for _, b := range fields {
			for _, p := range starts() {
				for _, n := range near(a) {
					for _, m := range near(b) {
						*a.at(&p) = n
						*b.at(&p) = m
						isFine := slices.Contains(b.good, m) && (a.name == b.name || slices.Contains(a.good, n))
						expectCheck(t, p, isFine)
					}
				}
			}
		}
	}
}

// P19.1: all good numbers of few kinds with one another.
func TestCheckGoodPlans(t *testing.T) {
	for _, p := range sizes() {
		for _, hold := range []int{1, 5, 64} {
			for _, cells := range []int{1, 7, 1024} {
				for _, batch := range []int{1, 9, 16} {
					for _, lease := range []int{1, 4, 20} {
						p.Hold, p.Cells, p.Batch, p.Lease = hold, cells, batch, lease
						expectCheck(t, p, true)
					}
				}
			}
		}
	}
}
