package audit_test

import (
	"slices"
	"testing"

	"estuary/api"
	"estuary/audit"
)

// wanted checks what Check answers to a log, as it is written and by the model.
func wanted(t *testing.T, p api.Plan, streams [][]api.Op, want error, log ...api.Batch) {
	t.Helper()
	if got := audit.Check(p, streams, log); got != want {
		t.Errorf("Check(%v): %v, want %v", short(log...), got, want)
	}
	expectCheck(t, p, streams, log)
}

// spread is a plan of four lanes, and streams of two sources with cells in all of them, closed up to time 40; window 3 of resolution 10 has no sample.
func spread() (api.Plan, [][]api.Op) {
	return sized(2, 2, 10, 20), [][]api.Op{
		{sample(1, 5, 1, 7), sample(2, 5, 2, -7), sample(3, -15, 1, 3), sample(4, 12, 3, 4), mark(5, 40), sample(6, 41, 1, 9)},
		{sample(1, 9, 1, 70), sample(2, 29, 2, 0), sample(3, 5, 3, 1), sample(4, -1, 4, 1), sample(5, 44, 5, 3), mark(6, 43), sample(7, 50, 2, 2)},
	}
}

// P21.1: the empty log is right, whatever is closed.
func TestCheckOfNoBatch(t *testing.T) {
	p, streams := spread()
	wanted(t, p, streams, nil)
	wanted(t, p, streams, nil, []api.Batch{}...)
	for _, other := range [][][]api.Op{{nil, nil}, {{sample(1, 5, 1, 7)}, nil}, {{mark(1, 5)}, {mark(1, 5)}}} {
		wanted(t, p, other, nil)
	}
}

// P21.1: one batch is right, up to what is closed and up to each place ahead of it.
func TestCheckOfOneBatch(t *testing.T) {
	p, streams := spread()
	for lane, closed := range []api.Place{upTo(4), upTo(4), upTo(2), upTo(2)} {
		wanted(t, p, streams, nil, batchOf(p, streams, 1, lane, start(), closed))
		wanted(t, p, streams, nil, batchOf(p, streams, greatest, lane, start(), closed))
		for win := -3; win < 2; win++ {
			for _, key := range []int{least, -1, 0, 1, 2, 3, 4, greatest} {
				wanted(t, p, streams, nil, batchOf(p, streams, 1, lane, start(), at(win, key)))
			}
		}
	}
	// Where no cell is there is no entry, and the batch is right all the same.
	wanted(t, p, streams, nil, api.Batch{Epoch: 1, Lane: 1, From: start(), To: upTo(-2)})
	wanted(t, p, streams, nil, api.Batch{Epoch: 1, Lane: 1, From: start(), To: behind(start()), Entries: []api.Entry{}})
}

// P21.1: several batches join one another, cut anywhere, also at a cell's place and right behind it.
func TestCheckOfBatchesThatJoin(t *testing.T) {
	p, streams := spread()
	for lane := range 4 {
		ids := slices.DeleteFunc(idsBy(p, streams), func(id api.Id) bool { return id.Lane != lane || id.Win > 1 })
		var cuts []api.Place
		for _, id := range ids {
			cuts = append(cuts, id.Place, behind(id.Place))
		}
		log := chain(p, streams, 3, lane, cuts...)
		for n := range log {
			wanted(t, p, streams, nil, log[:n+1]...)
		}
		for _, cut := range cuts {
			wanted(t, p, streams, nil, chain(p, streams, 3, lane, cut, upTo(2))...)
		}
	}
}

// P21.1: the batches of all lanes, one lane behind the other and mixed in any order that keeps each lane's own.
func TestCheckOfLanes(t *testing.T) {
	p, streams := spread()
	var chains [][]api.Batch
	for lane, closed := range []api.Place{upTo(4), upTo(4), upTo(2), upTo(2)} {
		chains = append(chains, chain(p, streams, 4-lane, lane, upTo(-1), at(0, 2), upTo(1), closed))
	}
	wanted(t, p, streams, nil, slices.Concat(chains...)...)
	slices.Reverse(chains)
	wanted(t, p, streams, nil, slices.Concat(chains...)...)
	s := scramble(7)
	for range 200 {
		rest := slices.Clone(chains)
		var log []api.Batch
		for range 16 {
			lane := s.next(4)
			for len(rest[lane]) == 0 {
				lane = (lane + 1) % 4
			}
			log = append(log, rest[lane][0])
			rest[lane] = rest[lane][1:]
		}
		wanted(t, p, streams, nil, log...)
		// A batch that is left out is missed by the next one of its lane, and by no other.
		gap := s.next(len(log))
		follows := slices.ContainsFunc(log[gap+1:], func(b api.Batch) bool { return b.Lane == log[gap].Lane })
		want := error(nil)
		if follows {
			want = errStale
		}
		wanted(t, p, streams, want, slices.Delete(log, gap, gap+1)...)
	}
}

// P21.1: a batch that isn't in form is ErrForm, by each of layer 17's reasons.
func TestCheckOfForm(t *testing.T) {
	p, streams := spread()
	good := batchOf(p, streams, 1, 1, start(), upTo(4))
	if len(good.Entries) != 4 {
		t.Fatal(short(good))
	}
	wanted(t, p, streams, nil, good)
	for _, change := range []func(b *api.Batch){
		func(b *api.Batch) { b.Epoch = 0 },
		func(b *api.Batch) { b.Epoch = -1 },
		func(b *api.Batch) { b.Epoch = least },
		func(b *api.Batch) { b.Lane = -1 },
		func(b *api.Batch) { b.Lane = least },
		func(b *api.Batch) { b.From, b.To, b.Entries = upTo(1), upTo(0), nil },
		func(b *api.Batch) { b.To = upTo(1) }, // entries at To and behind it
		func(b *api.Batch) { b.To = b.Entries[3].Place },
		func(b *api.Batch) { b.From = upTo(0) },
		func(b *api.Batch) { slices.Reverse(b.Entries) },
		func(b *api.Batch) { b.Entries[1], b.Entries[2] = b.Entries[2], b.Entries[1] },
		func(b *api.Batch) { b.Entries[1] = b.Entries[0] },
		func(b *api.Batch) { b.Entries = append(b.Entries, b.Entries[3]) },
		func(b *api.Batch) { b.Entries[0].Cell = api.Cell{} },
		func(b *api.Batch) {
			b.Entries = append(b.Entries, api.Entry{Place: upTo(3)}) // the cell of a place without samples is no entry
		},
	} {
		b := cloned([]api.Batch{good})[0]
		change(&b)
		wanted(t, p, streams, errForm, b)
	}
}

// crowded is streams of one source with cells of so many keys in window 0, closed up to window 1.
func crowded(keys int) (api.Plan, [][]api.Op) {
	var ops []api.Op
	for key := range keys {
		ops = append(ops, sample(key+1, 5, key, key+10))
	}
	return sized(1, 1, 10), [][]api.Op{append(ops, mark(keys+1, 10))}
}

// P21.1: 16 cells are in form, 17 aren't, though they are just the cells.
func TestCheckCountsEntries(t *testing.T) {
	for keys := 1; keys <= 20; keys++ {
		p, streams := crowded(keys)
		want := error(nil)
		if keys > 16 {
			want = errForm
		}
		all := batchOf(p, streams, 1, 0, start(), upTo(1))
		wanted(t, p, streams, want, all)
		if keys > 16 {
			// Some 16 of them are in form, but not just the cells.
			all.Entries = all.Entries[:16]
			wanted(t, p, streams, errRange, all)
			wanted(t, p, streams, nil, chain(p, streams, 1, 0, at(0, 16), upTo(1))...)
		}
	}
}

// P21.1: a batch whose To is its From is ErrForm, at the frontier and elsewhere.
func TestCheckOfEmptyBatches(t *testing.T) {
	p, streams := spread()
	good := batchOf(p, streams, 1, 1, start(), upTo(0))
	for _, log := range [][]api.Batch{nil, {good}} {
		for _, place := range []api.Place{start(), upTo(0), upTo(4), upTo(5), at(0, 0), end()} {
			probe := api.Batch{Epoch: 1, Lane: 1, From: place, To: place}
			wanted(t, p, streams, errForm, append(slices.Clone(log), probe)...)
		}
	}
}

// P21.1: a lane that there isn't is ErrForm, whatever else is right.
func TestCheckOfNoSuchLane(t *testing.T) {
	for shards := 1; shards <= 4; shards++ {
		for many := 1; many <= 3; many++ {
			p := sized(1, shards, []int{10, 10, 10}[:many]...)
			streams := [][]api.Op{{mark(1, 10)}}
			for lane := range many * shards {
				wanted(t, p, streams, nil, api.Batch{Epoch: 1, Lane: lane, From: start(), To: upTo(1)})
			}
			for _, lane := range []int{many * shards, many*shards + 1, 12, 13, 1 << 32, greatest, -1, least} {
				wanted(t, p, streams, errForm, api.Batch{Epoch: 1, Lane: lane, From: start(), To: upTo(1)})
			}
		}
	}
}

// P21.1: a batch that doesn't join is ErrStale: the first of a lane from elsewhere than the least place, others with a gap, with an overlap, again, or joined to another lane.
func TestCheckOfJoining(t *testing.T) {
	p, streams := spread()
	piece := func(lane int, from, to api.Place) api.Batch { return batchOf(p, streams, 1, lane, from, to) }
	first, second := piece(1, start(), upTo(0)), piece(1, upTo(0), upTo(1))
	other := piece(0, start(), upTo(1))
	wanted(t, p, streams, nil, first, second)
	for _, log := range [][]api.Batch{
		{second},
		{piece(1, behind(start()), upTo(0))},
		{piece(1, at(0, 0), upTo(0+1))},
		{first, first},
		{first, second, second},
		{first, second, first},
		{second, first},
		{first, piece(1, behind(upTo(0)), upTo(1))},
		{first, piece(1, at(-1, greatest), upTo(1))},
		{first, piece(1, start(), upTo(1))},
		{first, piece(1, upTo(1), upTo(2))},
		{other, piece(1, upTo(1), upTo(2))},
		{first, other, piece(1, upTo(1), upTo(2))},
		{first, other, piece(0, upTo(0), upTo(2))},
		{first, piece(0, upTo(0), upTo(1))},
	} {
		wanted(t, p, streams, errStale, log...)
	}
}

// P21.1: epochs that rise, by any steps, and such as stay; in each lane by itself.
func TestCheckOfEpochs(t *testing.T) {
	p, streams := spread()
	for _, c := range []struct {
		epochs []int
		want   error
	}{
		{[]int{1, 1, 1, 1}, nil},
		{[]int{1, 2, 3, 4}, nil},
		{[]int{2, 2, 7, 7}, nil},
		{[]int{5, greatest, greatest, greatest}, nil},
		{[]int{1, 1, 1 << 32, 1<<32 + 1}, nil},
		{[]int{2, 1, 2, 2}, errStale},
		{[]int{2, 2, 2, 1}, errStale},
		{[]int{1, 7, 6, 7}, errStale},
		{[]int{1, 3, 2}, errStale},
		{[]int{greatest, 1}, errStale},
		{[]int{greatest, greatest - 1}, errStale},
	} {
		log := chain(p, streams, 1, 1, upTo(-1), upTo(0), upTo(1), upTo(4))[:len(c.epochs)]
		for i, epoch := range c.epochs {
			log[i].Epoch = epoch
		}
		wanted(t, p, streams, c.want, log...)
		// A batch of another lane between them, of a lower or a higher epoch, is of no matter.
		for _, epoch := range []int{1, 4, greatest} {
			for i := range len(log) + 1 {
				wanted(t, p, streams, c.want, slices.Insert(slices.Clone(log), i, batchOf(p, streams, epoch, 0, start(), upTo(1)))...)
			}
		}
	}
}

// P21.1: what goes beyond what is closed is ErrNotYet, by one key already, and where nothing is closed.
func TestCheckOfWhatIsNotClosed(t *testing.T) {
	p, streams := spread()
	for lane, closed := range []api.Place{upTo(4), upTo(4), upTo(2), upTo(2)} {
		wanted(t, p, streams, nil, batchOf(p, streams, 1, lane, start(), closed))
		for _, to := range []api.Place{behind(closed), at(closed.Win, 0), upTo(closed.Win + 1), end()} {
			wanted(t, p, streams, errNotYet, batchOf(p, streams, 1, lane, start(), to))
			wanted(t, p, streams, errNotYet, chain(p, streams, 1, lane, upTo(0), to)...)
			wanted(t, p, streams, errNotYet, chain(p, streams, 1, lane, closed, to)...)
		}
	}
	// Lane 1's windows are the half of lane 3's.
	wanted(t, p, streams, errNotYet, batchOf(p, streams, 1, 3, start(), upTo(4)))
	for _, open := range [][][]api.Op{{streams[0], streams[1][:5]}, {streams[0][:4], streams[1]}, {nil, nil}} {
		for lane := range 4 {
			for _, to := range []api.Place{behind(start()), upTo(-5), upTo(0), end()} {
				wanted(t, p, open, errNotYet, batchOf(p, open, 1, lane, start(), to))
			}
		}
	}
}

// P21.1: at the least mark nothing can be taken at resolution 1; at the greatest one the greatest time alone can't.
func TestCheckAtTheEnds(t *testing.T) {
	p := sized(1, 1, 1)
	lowest := [][]api.Op{{sample(1, least, least, 5), mark(2, least)}}
	for _, to := range []api.Place{behind(start()), upTo(least + 1), end()} {
		wanted(t, p, lowest, errNotYet, batchOf(p, lowest, 1, 0, start(), to))
	}
	next := [][]api.Op{{sample(1, least, least, 5), sample(2, least, greatest, 6), mark(3, least+1)}}
	wanted(t, p, next, nil, chain(p, next, 1, 0, behind(start()), at(least, greatest), upTo(least+1))...)
	highest := [][]api.Op{{sample(1, greatest-1, greatest, 6), sample(2, greatest, least, 7), mark(3, greatest)}}
	wanted(t, p, highest, nil, chain(p, highest, 1, 0, at(greatest-1, greatest), upTo(greatest))...)
	wanted(t, p, highest, errNotYet, chain(p, highest, 1, 0, upTo(greatest), behind(upTo(greatest)))...)
	wanted(t, p, highest, errNotYet, chain(p, highest, 1, 0, upTo(greatest), end())...)
}

// P21.1: a batch that hasn't just the cells is ErrRange: one missing, one too many, one at another place, in another's place.
func TestCheckOfCells(t *testing.T) {
	p, streams := spread()
	good := batchOf(p, streams, 1, 1, start(), upTo(4))
	more := func(places ...api.Place) api.Batch {
		b := cloned([]api.Batch{good})[0]
		for _, place := range places {
			b.Entries = append(b.Entries, api.Entry{Place: place, Cell: good.Entries[0].Cell})
		}
		slices.SortFunc(b.Entries, func(a, b api.Entry) int { return slices.Compare([]int{a.Win, a.Key}, []int{b.Win, b.Key}) })
		return b
	}
	for i := range good.Entries {
		b := more()
		b.Entries = slices.Delete(b.Entries, i, i+1)
		wanted(t, p, streams, errRange, b)
		b = more()
		b.Entries[i].Key--
		wanted(t, p, streams, errRange, b)
		b = more()
		b.Entries[i].Cell = b.Entries[(i+1)%4].Cell
		wanted(t, p, streams, errRange, b)
	}
	none := more()
	none.Entries = nil
	wanted(t, p, streams, errRange, none)
	for _, place := range []api.Place{start(), at(-2, 2), upTo(-1), at(0, 2), at(0, 4), at(1, 0), at(3, greatest), at(2, 2)} {
		wanted(t, p, streams, errRange, more(place))
	}
	wanted(t, p, streams, errRange, more(start(), at(3, greatest)))
	// Another lane's cells aren't this one's.
	other := batchOf(p, streams, 1, 0, start(), upTo(4))
	good.Lane, other.Lane = 0, 1
	wanted(t, p, streams, errRange, good)
	wanted(t, p, streams, errRange, other)
}

// P21.1: a cell with another number, any one of them, is ErrRange.
func TestCheckOfCellsNumbers(t *testing.T) {
	p, streams := spread()
	good := batchOf(p, streams, 1, 1, start(), upTo(4))
	changes := []func(c *api.Cell){
		func(c *api.Cell) { c.Count++ },
		func(c *api.Cell) { c.Sum.Hi++ },
		func(c *api.Cell) { c.Sum.Lo++ },
		func(c *api.Cell) { c.Min-- },
		func(c *api.Cell) { c.Max++ },
		func(c *api.Cell) { c.Last.Time++ },
		func(c *api.Cell) { c.Last.Source ^= 1 },
		func(c *api.Cell) { c.Last.Seq++ },
		func(c *api.Cell) { c.Last.Value++ },
	}
	for b := range 65 {
		changes = append(changes, func(c *api.Cell) { c.Hist[b]++ })
	}
	for i := range good.Entries {
		for _, change := range changes {
			b := cloned([]api.Batch{good})[0]
			change(&b.Entries[i].Cell)
			wanted(t, p, streams, errRange, b)
		}
	}
}

// P21.1: a cell whose samples are all there, but not those behind the mark that belong to it too, hasn't just the cell: such samples break the mark.
func TestCheckOfSamplesBehindTheMark(t *testing.T) {
	p := sized(1, 1, 10)
	kept := []api.Op{sample(1, 5, 1, 7), mark(2, 10)}
	b := batchOf(p, [][]api.Op{kept}, 1, 0, start(), upTo(1))
	wanted(t, p, [][]api.Op{kept}, nil, b)
	late := [][]api.Op{append(kept[:2:2], sample(3, 6, 1, 7))}
	wanted(t, p, late, errRange, b)
	wanted(t, p, late, nil, batchOf(p, late, 1, 0, start(), upTo(1)))
}

// P21.1: the first batch that isn't right tells the error, whatever the ones behind it are.
func TestCheckBatchByBatch(t *testing.T) {
	p, streams := spread()
	log := chain(p, streams, 1, 1, upTo(-1), upTo(0), upTo(1), upTo(4))
	bad := map[error]func(b *api.Batch){
		errForm:   func(b *api.Batch) { b.Lane = 4 },
		errStale:  func(b *api.Batch) { b.From.Key++ },
		errNotYet: func(b *api.Batch) { b.To = end() },
		errRange: func(b *api.Batch) {
			b.Entries = append(slices.Clone(b.Entries), api.Entry{Place: at(b.To.Win-1, greatest), Cell: api.Cell{Count: 1}})
		},
	}
	for i := range log {
		for want, spoil := range bad {
			one := cloned(log)
			spoil(&one[i])
			wanted(t, p, streams, want, one...)
			for j := i + 1; j < len(log); j++ {
				for _, other := range bad {
					two := cloned(one)
					other(&two[j])
					wanted(t, p, streams, want, two...)
				}
			}
		}
	}
}

// P21.1: a log of many batches, some with cells and some without, which is right; and the same with one cell changed near its end.
func TestCheckOfManyBatches(t *testing.T) {
	p := sized(1, 1, 10)
	var ops []api.Op
	var log []api.Batch
	from := start()
	for win := range 3000 {
		b := api.Batch{Epoch: 1 + win/100, From: from, To: upTo(win + 1)}
		for key := range win % 4 {
			o := sample(len(ops)+1, 10*win+key, key, win-key)
			ops = append(ops, o)
			b.Entries = append(b.Entries, api.Entry{Place: at(win, key), Cell: cellOf([]drop{{0, o}})})
		}
		log, from = append(log, b), b.To
	}
	streams := [][]api.Op{append(ops, mark(len(ops)+1, 30000))}
	if err := audit.Check(p, streams, log); err != nil {
		t.Error(err)
	}
	last := log[2999].Entries
	last[len(last)-1].Cell.Max++
	if err := audit.Check(p, streams, log); err != errRange {
		t.Error(err)
	}
	log[0].Epoch = 2
	if err := audit.Check(p, streams, log); err != errStale {
		t.Error(err)
	}
}
