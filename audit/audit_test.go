package audit_test

import (
	"errors"
	"slices"
	"testing"

	"estuary/api"
	"estuary/audit"
)

// P21.1: the chapter's example.
func TestExample(t *testing.T) {
	p := sized(1, 1, 10)
	streams := [][]api.Op{{{Seq: 1, Kind: isSample, Time: 5, Key: 1, Value: 7}, mark(2, 10)}}
	want := api.Cell{Count: 1, Sum: api.Wide{Lo: 7}, Min: 7, Max: 7, Last: api.Last{Time: 5, Seq: 1, Value: 7}}
	want.Hist[3] = 1
	if c, err := audit.Read(p, streams, 0, 0, 1); c != want || err != nil {
		t.Error(c, err)
	}
	if c, err := audit.Read(p, streams, 0, 1, 1); c != (api.Cell{}) || err != errNotYet {
		t.Error(c, err)
	}
}

// P21.1: the document's numbers are those of package api.
func TestNumbers(t *testing.T) {
	if api.OpSample != isSample || api.OpMark != isMark || api.MaxEntries != mostEntries {
		t.Error("the kinds of operations, or the limit")
	}
	if api.ErrRange != errRange || api.ErrForm != errForm || api.ErrStale != errStale || api.ErrNotYet != errNotYet || api.ErrPlan != errPlan {
		t.Error("the errors")
	}
}

// several is a plan of three sources, two resolutions and three shards, and streams of it whose sources have cells in common.
func several() (api.Plan, [][]api.Op) {
	return sized(3, 3, 10, 60), [][]api.Op{
		{sample(1, 5, 1, 7), sample(2, 65, 4, -3), mark(3, 50), sample(4, 59, 1, 0), sample(5, 71, 4, 8)},
		{mark(1, -20), sample(2, 9, 1, 100), sample(3, 5, 1, -100), sample(4, -1, 2, 1), mark(5, 60)},
		{sample(1, 5, 1, 7), sample(2, 0, -1, 12), sample(3, 9, 1, 5), mark(4, 61), sample(5, 62, 0, 6)},
	}
}

// P21.1: a cell has the samples of all sources, and those of its name alone.
func TestCellOfSeveralSources(t *testing.T) {
	p, streams := several()
	want := api.Cell{Count: 5, Sum: api.Wide{Lo: 19}, Min: -100, Max: 100, Last: api.Last{Time: 9, Source: 2, Seq: 3, Value: 5}}
	want.Hist[3], want.Hist[7] = 3, 2
	if c, err := audit.Cell(p, streams, named(1, 0, 1)); c != want || err != nil {
		t.Errorf("%v, %v, want %v", c, err, want)
	}
	hour := api.Cell{Count: 6, Sum: api.Wide{Lo: 19}, Min: -100, Max: 100, Last: api.Last{Time: 59, Source: 0, Seq: 4, Value: 0}}
	hour.Hist[0], hour.Hist[3], hour.Hist[7] = 1, 3, 2
	if c, err := audit.Cell(p, streams, named(4, 0, 1)); c != hour || err != nil {
		t.Errorf("%v, %v, want %v", c, err, hour)
	}
	alone := api.Cell{Count: 1, Sum: api.Wide{Lo: 12}, Min: 12, Max: 12, Last: api.Last{Time: 0, Source: 2, Seq: 2, Value: 12}}
	alone.Hist[4] = 1
	if c, err := audit.Cell(p, streams, named(2, 0, -1)); c != alone || err != nil {
		t.Errorf("%v, %v, want %v", c, err, alone)
	}
	expectAll(t, p, streams)
}

// P21.1: the cell of a name that no sample has is the unit, also of lanes that there aren't and of a key that is another lane's.
func TestCellOfNoSample(t *testing.T) {
	p, streams := several()
	for _, id := range []api.Id{
		named(1, 1, 1), named(1, 0, 4), named(0, 0, 1), named(2, 0, 1), named(3, 0, 1), // window 0 of key 1 is in lanes 1 and 4
		named(6, 0, 1), named(7, 0, 1), named(-1, 0, 1), named(-2, 0, 1), named(least, 0, 1), named(greatest, 0, 1), named(1<<32+1, 0, 1),
		named(1, least, least), named(1, greatest, greatest), named(0, 5, 0), named(1, 6, 0),
	} {
		if c, err := audit.Cell(p, streams, id); c != (api.Cell{}) || err != nil {
			t.Errorf("Cell(%v): %v, %v", id, c, err)
		}
		expectCell(t, p, streams, id)
	}
}

// P21.1: samples at the least and the greatest times and values, whose sums are beyond 64 bits.
func TestCellAtTheEnds(t *testing.T) {
	p := sized(2, 4, 1, 10, greatest)
	var ops []api.Op
	for i, time := range []int{least, least + 1, -1, 0, 1, greatest - 1, greatest} {
		for j, value := range []int{least, least + 1, -1, 0, greatest - 1, greatest} {
			for k, key := range []int{least, greatest, -1, 0} {
				ops = append(ops, sample(100*i+10*j+k, time, key, value))
			}
		}
	}
	streams := [][]api.Op{ops, slices.Concat(ops, ops)}
	expectIds(t, p, streams)
	for _, id := range idsBy(p, streams) {
		expectCell(t, p, streams, id)
	}
	c, err := audit.Cell(p, [][]api.Op{{sample(1, least, 0, greatest)}, {sample(1, least, 0, greatest), sample(2, least, 0, greatest)}}, named(0, least, 0))
	if c.Sum != (api.Wide{Hi: 1, Lo: 1<<63 - 3}) || c.Count != 3 || err != nil {
		t.Error(c, err)
	}
	c, err = audit.Cell(p, [][]api.Op{{sample(1, greatest, 0, least)}, {sample(1, greatest, 0, least), sample(greatest, greatest, 0, least)}}, named(0, greatest, 0))
	if c.Sum != (api.Wide{Hi: -2, Lo: 1 << 63}) || c.Last.Seq != greatest || err != nil {
		t.Error(c, err)
	}
	// The greatest resolution has few windows: the least time alone is in the one ahead of -1.
	c, err = audit.Cell(p, [][]api.Op{{sample(1, least, 0, 1), sample(2, least+1, 0, 1), sample(3, -1, 0, 1), sample(4, greatest, 0, 1)}, nil}, named(8, -2, 0))
	if c.Count != 1 || err != nil {
		t.Error(c, err)
	}
}

// P21.1: what a mark has beside its time, and its number, is of no matter; nor are samples' numbers, which may be anything.
func TestOtherNumbersDoNotMatter(t *testing.T) {
	p := sized(1, 1, 10)
	odd := api.Op{Seq: -5, Kind: isMark, Time: 20, Key: 1, Value: 9}
	streams := [][]api.Op{{sample(7, 5, 1, 3), odd, sample(7, 5, 1, 3), sample(least, 6, 1, 4)}}
	want := cellOf([]drop{{0, streams[0][0]}, {0, streams[0][2]}, {0, streams[0][3]}})
	if c, err := audit.Cell(p, streams, named(0, 0, 1)); c != want || c.Count != 3 || err != nil {
		t.Error(c, err)
	}
	if ids, err := audit.Ids(p, streams); !slices.Equal(ids, []api.Id{named(0, 0, 1)}) || err != nil {
		t.Error(ids, err)
	}
	expectAll(t, p, streams)
}

// P21.1: the names of cells, by rising lanes, then places, each once.
func TestIds(t *testing.T) {
	p, streams := several()
	want := []api.Id{
		named(0, 6, 0),
		named(1, 0, 1), named(1, 5, 1), named(1, 6, 4), named(1, 7, 4),
		named(2, -1, 2), named(2, 0, -1),
		named(3, 1, 0),
		named(4, 0, 1), named(4, 1, 4),
		named(5, -1, 2), named(5, 0, -1),
	}
	if ids, err := audit.Ids(p, streams); !slices.Equal(ids, want) || err != nil {
		t.Errorf("%v, %v, want %v", ids, err, want)
	}
}

// P21.1: of one window the lesser key comes first, of two windows the lesser one whatever the keys are; keys and windows below 0 come ahead of others.
func TestIdsByPlaces(t *testing.T) {
	p := sized(1, 1, 1)
	want := []api.Id{
		named(0, least, 9), named(0, -2, greatest), named(0, -1, least), named(0, -1, -1), named(0, -1, 0),
		named(0, 0, 8), named(0, 1, 0), named(0, 1, 7), named(0, 1, greatest), named(0, greatest, least),
	}
	for shift := range want {
		var ops []api.Op
		for i := range want {
			id := want[(7*i+shift)%len(want)]
			ops = append(ops, sample(2*i+1, id.Win, id.Key, i), sample(2*i+2, id.Win, id.Key, -i))
		}
		if ids, err := audit.Ids(p, [][]api.Op{ops}); !slices.Equal(ids, want) || err != nil {
			t.Errorf("%v, %v, want %v", ids, err, want)
		}
	}
}

// P21.1: resolutions that are the same have cells of their own, and so have all lanes at the most of sources, resolutions and shards.
func TestIdsOfAllLanes(t *testing.T) {
	p := sized(4, 4, 7, 7, 1)
	var ops []api.Op
	for key := range 8 {
		ops = append(ops, sample(key+1, 3*key, key-4, key))
	}
	streams := [][]api.Op{ops, ops[:4], nil, slices.Repeat(ops, 3)}
	ids, err := audit.Ids(p, streams)
	if len(ids) != 24 || err != nil || ids[0].Lane != 0 || ids[23].Lane != 11 || !slices.IsSortedFunc(ids, byName) {
		t.Error(ids, err)
	}
	expectAll(t, p, streams)
}

// P21.1: marks alone have no cell, nor have streams without operations; nil and empty streams are the same.
func TestIdsOfNoSample(t *testing.T) {
	p := sized(2, 2, 10, 60)
	for _, streams := range [][][]api.Op{{nil, nil}, {{}, {}}, {nil, {}}, make([][]api.Op, 2), {{mark(1, 5)}, {mark(1, 7), mark(2, 9)}}, {{mark(1, 5)}, nil}} {
		if ids, err := audit.Ids(p, streams); len(ids) != 0 || err != nil {
			t.Errorf("Ids(%v): %v, %v", streams, ids, err)
		}
		if c, err := audit.Cell(p, streams, named(0, 0, 0)); c != (api.Cell{}) || err != nil {
			t.Errorf("Cell(%v): %v, %v", streams, c, err)
		}
		expectAll(t, p, streams)
	}
}

// P21.1: rounds are 60, eight for each tick of the lease, one for each operation, samples and marks, and two for each cell.
func TestRounds(t *testing.T) {
	p, streams := several()
	if n := audit.Rounds(p, streams); n != 60+8*2+15+2*12 {
		t.Error(n)
	}
	for lease := 1; lease <= 20; lease++ {
		p.Lease = lease
		if n := audit.Rounds(p, streams); n != 60+8*lease+15+2*12 {
			t.Error(lease, n)
		}
	}
	one := sized(1, 1, 10)
	for _, c := range []struct {
		ops  []api.Op
		want int
	}{
		{nil, 76},
		{[]api.Op{mark(1, 5)}, 77},
		{[]api.Op{mark(1, 5), mark(2, 5)}, 78},
		{[]api.Op{sample(1, 5, 0, 0)}, 79},
		{[]api.Op{sample(1, 5, 0, 0), sample(2, 6, 0, 0)}, 80},
		{[]api.Op{sample(1, 5, 0, 0), sample(2, 15, 0, 0)}, 82},
		{[]api.Op{sample(1, 5, 0, 0), sample(2, 5, 1, 0), mark(3, 9)}, 83},
	} {
		if n := audit.Rounds(one, [][]api.Op{c.ops}); n != c.want {
			t.Errorf("Rounds(%v): %d, want %d", c.ops, n, c.want)
		}
	}
	// The numbers of the plan beside its lease don't count by themselves.
	other := api.Plan{Sources: 1, Keepers: 5, Res: []int{3}, Shards: 4, Hold: 64, Cells: 1024, Batch: 16, Lease: 2}
	if n := audit.Rounds(other, [][]api.Op{nil}); n != 76 {
		t.Error(n)
	}
}

// P21.1: a thousand samples of several sources, all told.
func TestManySamples(t *testing.T) {
	p := sized(3, 2, 7, 100)
	s := scramble(21)
	streams := make([][]api.Op, 3)
	for i := range 1000 {
		source := s.next(3)
		streams[source] = append(streams[source], sample(i, s.next(400)-200, s.next(5)-2, s.next(1000)-500))
	}
	expectIds(t, p, streams)
	expectRounds(t, p, streams)
	for _, id := range idsBy(p, streams) {
		if s.next(10) == 0 {
			expectCell(t, p, streams, id)
		}
	}
}

// P21.1: the errors are those of package api, asked by errors.Is.
func TestErrorsAreTold(t *testing.T) {
	p := sized(1, 1, 10)
	if _, err := audit.Ids(p, nil); !errors.Is(err, errForm) {
		t.Error(err)
	}
	p.Lease = 0
	if _, err := audit.Ids(p, nil); !errors.Is(err, errPlan) {
		t.Error(err)
	}
}
