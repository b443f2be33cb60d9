package audit_test

import (
	"testing"

	"estuary/api"
	"estuary/audit"
)

// expectUpTo checks that a lane is closed up to a window.
func expectUpTo(t *testing.T, p api.Plan, streams [][]api.Op, lane, win int) {
	t.Helper()
	if to, ok := audit.Closed(p, streams, lane); to != upTo(win) || !ok {
		t.Errorf("Closed(%v, %v, %d): %v, %v, want window %d", p, streams, lane, to, ok, win)
	}
	expectClosed(t, p, streams, lane)
}

// expectOpen checks that nothing is closed in a lane.
func expectOpen(t *testing.T, p api.Plan, streams [][]api.Op, lane int) {
	t.Helper()
	if to, ok := audit.Closed(p, streams, lane); to != (api.Place{}) || ok {
		t.Errorf("Closed(%v, %v, %d): %v, %v", p, streams, lane, to, ok)
	}
	expectClosed(t, p, streams, lane)
}

// P21.1: the least of the sources' last marks closes, whichever source's it is.
func TestClosedByTheLeastMark(t *testing.T) {
	p := sized(3, 1, 10)
	for shift := range 3 {
		streams := make([][]api.Op, 3)
		for i, time := range []int{57, 39, 1000} {
			streams[(i+shift)%3] = []api.Op{sample(1, 0, 0, 0), mark(2, time), sample(3, 2000, 0, 0)}
		}
		expectUpTo(t, p, streams, 0, 3)
	}
	same := []api.Op{mark(1, 40)}
	expectUpTo(t, p, [][]api.Op{same, same, same}, 0, 4)
}

// P21.1: of each source the last mark counts, also where it falls behind others, and whatever samples are behind it.
func TestTheLastMarkCounts(t *testing.T) {
	p := sized(2, 1, 10)
	far := []api.Op{mark(1, 500)}
	for _, c := range []struct {
		ops []api.Op
		win int
	}{
		{[]api.Op{mark(1, 10), mark(2, 20), mark(3, 30)}, 3},
		{[]api.Op{mark(1, 30), mark(2, 20), mark(3, 10)}, 1},
		{[]api.Op{mark(1, 10), mark(2, 30), mark(3, 20)}, 2},
		{[]api.Op{mark(3, 10), mark(2, 30), mark(1, 20)}, 2}, // by where it stands, not by its number
		{[]api.Op{mark(1, greatest), mark(2, least), mark(3, 5)}, 0},
		{[]api.Op{mark(1, 30), sample(2, 7, 0, 0), mark(3, 20), sample(4, 90, 0, 0), sample(5, 95, 0, 0)}, 2},
		{[]api.Op{mark(1, 90), mark(2, -1)}, -1},
	} {
		expectUpTo(t, p, [][]api.Op{c.ops, far}, 0, c.win)
		expectUpTo(t, p, [][]api.Op{far, c.ops}, 0, c.win)
	}
	// The least one of all marks is another one than the least of the last ones.
	expectUpTo(t, p, [][]api.Op{{mark(1, 0), mark(2, 80)}, {mark(1, 70)}}, 0, 7)
}

// P21.1: where a source has no mark, nothing is closed in any lane.
func TestNothingIsClosedWithoutAMark(t *testing.T) {
	p := sized(3, 2, 10, 60)
	marked := []api.Op{mark(1, 100), sample(2, 100, 0, 0)}
	for _, none := range [][]api.Op{nil, {}, {sample(1, 50, 0, 0), sample(2, 70, 1, 0)}} {
		for shift := range 3 {
			streams := make([][]api.Op, 3)
			for i, ops := range [][]api.Op{marked, marked, none} {
				streams[(i+shift)%3] = ops
			}
			for lane := -1; lane <= 4; lane++ {
				expectOpen(t, p, streams, lane)
			}
			for i := range 2 {
				if c, err := audit.Read(p, streams, i, least, 0); c != (api.Cell{}) || err != errNotYet {
					t.Error(c, err)
				}
			}
		}
	}
	expectOpen(t, p, [][]api.Op{nil, nil, nil}, 0)
	// A mark of time 0 is one.
	expectUpTo(t, p, [][]api.Op{marked, {mark(1, 0)}, marked}, 0, 0)
}

// P21.1: each lane by its resolution; none of the lanes ahead of the first one and behind the last one.
func TestClosedByLanes(t *testing.T) {
	for shards := 1; shards <= 4; shards++ {
		p := sized(2, shards, 10, 60, 7)
		streams := [][]api.Op{{mark(1, 125)}, {mark(1, 200)}}
		for s := range shards {
			expectUpTo(t, p, streams, s, 12)
			expectUpTo(t, p, streams, shards+s, 2)
			expectUpTo(t, p, streams, 2*shards+s, 17)
		}
		for _, lane := range []int{-1, -2, -shards, -3 * shards, least, 3 * shards, 3*shards + 1, 4 * shards, 13, greatest, 1 << 32} {
			expectOpen(t, p, streams, lane)
		}
		p.Res = p.Res[:1]
		for s := range shards {
			expectUpTo(t, p, streams, s, 12)
			expectOpen(t, p, streams, shards+s)
		}
	}
}

// P21.1: windows are rounded down, also below 0, and at the least and the greatest marks.
func TestClosedAtTheEnds(t *testing.T) {
	p := sized(1, 1, 10, 1, greatest)
	for _, c := range []struct{ mark, ten, one, all int }{
		{0, 0, 0, 0},
		{9, 0, 9, 0},
		{10, 1, 10, 0},
		{-1, -1, -1, -1},
		{-10, -1, -10, -1},
		{-11, -2, -11, -1},
		{greatest, greatest / 10, greatest, 1},
		{greatest - 1, greatest / 10, greatest - 1, 0},
		{least, least/10 - 1, least, -2},
		{least + 1, least/10 - 1, least + 1, -1},
	} {
		streams := [][]api.Op{{mark(1, c.mark)}}
		expectUpTo(t, p, streams, 0, c.ten)
		expectUpTo(t, p, streams, 1, c.one)
		expectUpTo(t, p, streams, 2, c.all)
	}
}

// expectCells checks what is read of windows, by the count of samples; below 0 stands for ErrNotYet.
func expectCells(t *testing.T, p api.Plan, streams [][]api.Op, i, key int, counts map[int]int) {
	t.Helper()
	for win, count := range counts {
		c, err := audit.Read(p, streams, i, win, key)
		if count < 0 && (err != errNotYet || c != (api.Cell{})) || count >= 0 && (err != nil || c.Count != count) {
			t.Errorf("Read(%v, %v, %d, %d, %d): %v, %v, want %d", p, streams, i, win, key, c, err, count)
		}
		expectRead(t, p, streams, i, win, key)
	}
}

// P21.1: what is read ahead of what is closed, at it and behind it: whatever the key is, the window decides.
func TestReadByWindows(t *testing.T) {
	p := sized(2, 2, 10, 60)
	streams := [][]api.Op{
		{sample(1, 5, 1, 7), sample(2, 7, 1, 7), sample(3, 15, 2, 7), sample(4, 28, least, 7), mark(5, 29), sample(6, 30, 1, 7)},
		{sample(1, 3, 1, 7), sample(2, 19, 2, 7), mark(3, 65), sample(4, 130, greatest, 7)},
	}
	expectCells(t, p, streams, 0, 1, map[int]int{least: 0, -1: 0, 0: 3, 1: 0, 2: -1, 3: -1, 4: -1, greatest: -1})
	expectCells(t, p, streams, 0, 2, map[int]int{-1: 0, 0: 0, 1: 2, 2: -1, 3: -1})
	expectCells(t, p, streams, 0, least, map[int]int{0: 0, 1: 0, 2: -1})
	expectCells(t, p, streams, 0, greatest, map[int]int{0: 0, 1: 0, 2: -1, 13: -1})
	// The window of the coarser resolution isn't closed yet, though some of its time is.
	expectCells(t, p, streams, 1, 1, map[int]int{least: 0, -1: 0, 0: -1, 1: -1})
	streams[0] = append(streams[0], mark(7, 60))
	expectCells(t, p, streams, 1, 1, map[int]int{-1: 0, 0: 4, 1: -1})
	expectCells(t, p, streams, 0, least, map[int]int{1: 0, 2: 1, 3: 0, 5: 0, 6: -1})
}

// P21.1: a resolution number that there isn't is ErrRange, also where the place isn't final and where nothing is closed.
func TestReadOfNoResolution(t *testing.T) {
	for many := 1; many <= 3; many++ {
		p := sized(1, 2, []int{10, 10, 10}[:many]...)
		for _, ops := range [][]api.Op{nil, {sample(1, 5, 1, 7)}, {sample(1, 5, 1, 7), mark(2, 10)}} {
			streams := [][]api.Op{ops}
			for i := range many {
				expectRead(t, p, streams, i, 0, 1)
			}
			for _, i := range []int{-1, -2, many, many + 1, 4, 100, least, greatest, 1 << 32} {
				for _, win := range []int{0, 1, least, greatest} {
					if c, err := audit.Read(p, streams, i, win, 1); c != (api.Cell{}) || err != errRange {
						t.Errorf("Read of resolution number %d of %d, window %d: %v, %v", i, many, win, c, err)
					}
				}
			}
		}
	}
}

// P21.1: at the least mark no place is closed at resolution 1; at the greatest one all windows are but the last one.
func TestReadAtTheEnds(t *testing.T) {
	p := sized(1, 1, 1)
	ops := []api.Op{sample(1, least, least, 5), sample(2, greatest-1, 0, 6), sample(3, greatest, 0, 7)}
	lowest := [][]api.Op{append(ops[:3:3], mark(4, least))}
	expectCells(t, p, lowest, 0, least, map[int]int{least: -1, least + 1: -1, 0: -1, greatest: -1})
	next := [][]api.Op{append(ops[:3:3], mark(4, least+1))}
	expectCells(t, p, next, 0, least, map[int]int{least: 1, least + 1: -1})
	highest := [][]api.Op{append(ops[:3:3], mark(4, greatest))}
	expectCells(t, p, highest, 0, 0, map[int]int{least: 0, 0: 0, greatest - 1: 1, greatest: -1})
	expectCells(t, p, highest, 0, greatest, map[int]int{greatest - 1: 0, greatest: -1})
}
