package gate_test

import (
	"slices"
	"testing"

	"estuary/api"
	"estuary/gate"
)

// P17.1: where no source, or not each source, has a mark, there is no next batch.
func TestNextWithoutMarks(t *testing.T) {
	w := plain(t)
	w.none(t)
	w.samples(t, at(0, 0), at(1, 0))
	w.none(t)
	w = made(t, 3, []int{1}, 1)
	w.samples(t, at(0, 0), at(1, 0))
	for _, source := range []int{1, 0} {
		w.feed(t, source, api.Op{Kind: isMark, Time: 9})
		w.none(t)
	}
	w.feed(t, 2, api.Op{Kind: isMark, Time: 1})
	w.written(t, 5, upTo(least), upTo(1), at(0, 0))
}

// P17.1: where the lane is closed just at its base, or is behind it, there is none; where it is closed beyond its base, there is one, with cells or without.
func TestNextAtTheBase(t *testing.T) {
	w := plain(t)
	w.mark(t, least)
	w.none(t)
	w.mark(t, least+1)
	w.written(t, 1, upTo(least), upTo(least+1))
	w.samples(t, at(4, greatest), at(5, least), at(5, 0))
	w.mark(t, 5)
	for _, base := range []api.Place{upTo(4), at(4, greatest-1), at(4, greatest)} {
		w.raise(t, 0, base)
		w.written(t, 1, base, upTo(5), at(4, greatest))
	}
	w.raise(t, 0, upTo(5))
	w.none(t)
	w.raise(t, 0, at(5, least+1))
	w.none(t)
	w.raise(t, 0, upTo(7))
	w.none(t)
	w.mark(t, 7)
	w.none(t)
	w.mark(t, 8)
	w.written(t, 16, upTo(7), upTo(8))
}

// P17.1: a base and what is closed at the numbers' ends.
func TestNextOfFarBases(t *testing.T) {
	w := plain(t)
	w.mark(t, greatest)
	w.written(t, 1, upTo(least), upTo(greatest))
	w.raise(t, 0, at(greatest-1, greatest))
	w.written(t, 1, at(greatest-1, greatest), upTo(greatest))
	w.raise(t, 0, upTo(greatest))
	w.none(t)
	w.raise(t, 0, at(greatest, greatest))
	w.none(t)
}

// P17.1: fewer cells than may be, just as many, and more.
func TestNextCountsCells(t *testing.T) {
	for n := range 40 {
		w := plain(t)
		var places []api.Place
		for i := range n {
			places = append(places, at(i/7, i%7))
		}
		w.samples(t, places...)
		w.mark(t, 6)
		for most := 1; most <= 16; most++ {
			if n <= most {
				w.written(t, most, upTo(least), upTo(6), places...)
				continue
			}
			w.written(t, most, upTo(least), behind(places[most-1]), places[:most]...)
		}
	}
}

// P17.1: Next takes from 1 to 16 entries at most, epochs from 1 on, and lanes that are there; Probe takes all.
func TestNextNumbers(t *testing.T) {
	w := made(t, 2, []int{1, 5}, 2)
	for i := range 50 {
		w.sample(t, i, i%5)
	}
	w.mark(t, 33)
	w.raise(t, 1, at(20, 3))
	given := 0
	for _, epoch := range []int{least, -1, 0, 1, 2, greatest} {
		for _, lane := range []int{least, -1, 0, 1, 2, 3, 4, 12, greatest} {
			for _, most := range []int{least, -1, 0, 1, 2, 15, 16, 17, 18, greatest} {
				b, ok := w.expect(t, epoch, lane, most)
				if want := epoch >= 1 && lane >= 0 && lane <= 3 && most >= 1 && most <= 16; ok != want {
					t.Errorf("Next(%d, %d, %d): %v, %v", epoch, lane, most, short(b), ok)
				}
				if ok {
					given++
				}
			}
		}
	}
	if given != 3*4*4 {
		t.Error(given)
	}
}

// P17.1: cells behind what is closed are none of the batch's, and don't count.
func TestNextLeavesWhatIsOpen(t *testing.T) {
	w := plain(t)
	w.samples(t, at(3, least), at(3, 0), at(3, greatest), at(4, 0), at(greatest, greatest))
	for key := range 30 {
		w.sample(t, 5, key)
	}
	w.mark(t, 3)
	w.written(t, 1, upTo(least), upTo(3))
	w.samples(t, at(2, greatest))
	w.written(t, 1, upTo(least), upTo(3), at(2, greatest))
	w.mark(t, 4)
	w.written(t, 4, upTo(least), upTo(4), at(2, greatest), upTo(3), at(3, 0), at(3, greatest))
	w.written(t, 3, upTo(least), at(3, 1), at(2, greatest), upTo(3), at(3, 0))
	w.raise(t, 0, at(3, 1))
	w.written(t, 1, at(3, 1), upTo(4), at(3, greatest))
}

// P17.1: the least of all sources' marks is what closes.
func TestNextOfManySources(t *testing.T) {
	w := made(t, 4, []int{10}, 1)
	for source := range 4 {
		for i := range 5 {
			w.feed(t, source, api.Op{Kind: isSample, Time: 10*i + source, Key: i % 2, Value: source - 2})
		}
	}
	for source, time := range []int{25, 45, 30, 39} {
		w.feed(t, source, api.Op{Kind: isMark, Time: time})
	}
	w.written(t, 9, upTo(least), upTo(2), at(0, 0), at(1, 1))
	b, _ := gate.Next(w.b, 1, 0, 9)
	if c := b.Entries[0].Cell; c.Count != 4 || c.Min != -2 || c.Max != 1 || c.Last != (api.Last{Time: 3, Source: 3, Seq: 1, Value: 1}) {
		t.Error(c)
	}
	w.feed(t, 0, api.Op{Kind: isMark, Time: 40})
	w.written(t, 9, upTo(least), upTo(3), at(0, 0), at(1, 1), at(2, 0))
}

// P17.1: keys and windows at the numbers' ends.
func TestNextAtTheEnds(t *testing.T) {
	w := plain(t)
	places := []api.Place{
		at(least, least), at(least, least+1), at(least, greatest), at(least+1, least), at(-1, greatest), at(0, least), at(0, greatest),
		at(1, least), at(greatest-1, least), at(greatest-1, greatest),
	}
	open := []api.Place{at(greatest, least), at(greatest, 0), at(greatest, greatest)}
	w.samples(t, open...)
	w.samples(t, places...)
	w.mark(t, greatest)
	w.written(t, 16, upTo(least), upTo(greatest), places...)
	tos := []api.Place{
		at(least, least+1), at(least, least+2), upTo(least + 1), at(least+1, least+1), upTo(0), at(0, least+1), upTo(1),
		at(1, least+1), at(greatest-1, least+1), upTo(greatest),
	}
	from := upTo(least)
	for i, to := range tos {
		w.written(t, 1, from, to, places[i])
		w.raise(t, 0, to)
		from = to
	}
	w.none(t)
}

// P17.1: the last of the entries has the greatest key of its window, and there are more: To is the next window's beginning.
func TestNextBehindTheGreatestKey(t *testing.T) {
	w := plain(t)
	w.samples(t, at(0, 1), at(0, greatest), at(3, 3))
	w.mark(t, 8)
	w.written(t, 2, upTo(least), upTo(1), at(0, 1), at(0, greatest))
	w.raise(t, 0, upTo(1))
	w.written(t, 2, upTo(1), upTo(8), at(3, 3))
}

// P17.1: a base in the midst of the cells, set from outside; the batch begins just there.
func TestNextFromAnyBase(t *testing.T) {
	for win := range 4 {
		for key := range 5 {
			w := plain(t)
			for i := range 12 {
				w.sample(t, i/3, 1+i%3)
			}
			w.mark(t, 3)
			w.raise(t, 0, at(win, key))
			for most := range 18 {
				w.expect(t, 4, 0, most)
			}
		}
	}
}

// P17.1: of a nil Basin there is no batch; the one without entries is from the zero place to it.
func TestNilBasin(t *testing.T) {
	for _, epoch := range []int{least, 0, 1, greatest} {
		for _, lane := range []int{least, -1, 0, 1, greatest} {
			for _, most := range []int{least, 0, 1, 16, 17, greatest} {
				if b, ok := gate.Next(nil, epoch, lane, most); ok || !equal(b, api.Batch{}) {
					t.Error(b, ok)
				}
			}
			if b := gate.Probe(nil, epoch, lane); !equal(b, api.Batch{Epoch: epoch, Lane: lane}) {
				t.Error(b)
			}
		}
	}
}

// P17.1: Probe is the batch without entries at the base, whatever is closed and whatever cells there are; of a good epoch and a lane that is there it is in form.
func TestProbe(t *testing.T) {
	w := made(t, 1, []int{1}, 2)
	steps := []func(){
		func() {},
		func() { w.samples(t, at(0, 0), at(0, 1), at(5, 0)) },
		func() { w.mark(t, 3) },
		func() { w.raise(t, 0, at(0, 1)) },
		func() { w.raise(t, 0, upTo(3)) },
		func() { w.raise(t, 0, at(greatest, greatest)) },
	}
	bases := []api.Place{upTo(least), upTo(least), upTo(least), at(0, 1), upTo(3), at(greatest, greatest)}
	for i, step := range steps {
		step()
		b := gate.Probe(w.b, 7, 0)
		if want := (api.Batch{Epoch: 7, From: bases[i], To: bases[i]}); !equal(b, want) || gate.Check(b) != nil {
			t.Errorf("step %d: %v, %v", i, short(b), gate.Check(b))
		}
		if b := gate.Probe(w.b, 7, 1); b.From != upTo(least) || b.To != upTo(least) || b.Lane != 1 {
			t.Error(short(b))
		}
		for _, epoch := range []int{least, -1, 0, 1, greatest} {
			for _, lane := range []int{least, -1, 0, 1, 2, greatest} {
				b := gate.Probe(w.b, epoch, lane)
				if !equal(b, w.probe(epoch, lane)) || (gate.Check(b) == nil) != (epoch >= 1 && lane >= 0) {
					t.Error(short(b))
				}
			}
		}
	}
}

// drain takes a lane's batches one behind the other, raising its base to each one's To, till there is none, and is their entries.
func (w *world) drain(t *testing.T, lane, most int) []api.Entry {
	t.Helper()
	var list []api.Entry
	closed, ok := w.closed(lane)
	want := w.between(lane, w.bases[lane], closed)
	from := w.bases[lane]
	moves := ok && ahead(from, closed)
	// Each batch but the last one has as many entries as may be.
	batches := max(1, (len(want)+most-1)/most)
	for range batches {
		b, ok := w.expect(t, 1+lane, lane, most)
		if ok != moves || !ok {
			break
		}
		if b.From != from {
			t.Fatalf("%v doesn't join %v", short(b), from)
		}
		list = append(list, b.Entries...)
		w.raise(t, lane, b.To)
		from = b.To
	}
	if b, ok := w.expect(t, 1+lane, lane, most); ok {
		t.Fatalf("more than %d batches: %v", batches, short(b))
	}
	if moves && from != closed {
		t.Fatalf("lane %d came to %v, want %v", lane, from, closed)
	}
	if moves && !slices.Equal(list, want) || !moves && len(list) > 0 {
		t.Fatalf("lane %d: cells are missing, or there are some twice", lane)
	}
	return list
}

// P17.2: all numbers of cells and all numbers of entries: the batches join, come to what is closed, and each cell is in one of them.
func TestDrainAllSizes(t *testing.T) {
	for n := range 36 {
		for most := 1; most <= 16; most++ {
			w := plain(t)
			for i := range n {
				w.sample(t, i/5, []int{least, -1, 0, 1, greatest}[i%5])
			}
			w.sample(t, 8, 0)
			w.mark(t, 8)
			if got := w.drain(t, 0, most); len(got) != n {
				t.Fatalf("%d cells of %d", len(got), n)
			}
			if w.b.Len() != 1 || w.b.Base(0) != upTo(8) {
				t.Fatal(w.b.Len(), w.b.Base(0))
			}
		}
	}
}

// P17.2: many sources, resolutions and shards, with samples and marks that come while the lanes are drained: each cell is in one batch, whole.
func TestDrainWhileItFlows(t *testing.T) {
	for seed := range 60 {
		s := scramble(seed)
		w := made(t, 1+s.next(4), [][]int{{1}, {7}, {3, 10}, {1, 5, 60}}[s.next(4)], 1+s.next(4))
		marks := make([]int, w.sources)
		for i := range marks {
			marks[i] = -50
		}
		taken := map[api.Id]api.Cell{}
		drain := func() {
			lane := s.next(w.lanes())
			for _, e := range w.drain(t, lane, 1+s.next(16)) {
				id := api.Id{Lane: lane, Place: e.Place}
				if _, ok := taken[id]; ok {
					t.Fatalf("%v twice", id)
				}
				taken[id] = e.Cell
			}
		}
		for range 120 {
			source := s.next(w.sources)
			switch s.next(8) {
			case 0:
				marks[source] += s.next(20)
				w.feed(t, source, api.Op{Kind: isMark, Time: marks[source]})
			case 1:
				drain()
			default:
				w.feed(t, source, api.Op{Kind: isSample, Time: marks[source] + s.next(60), Key: s.next(9) - 4, Value: s.next(200) - 100})
			}
		}
		w.expectTaken(t, taken)
	}
}

// expectTaken holds that what was drained is just the cells of all samples ever taken that are ahead of the lanes' bases.
func (w *world) expectTaken(t *testing.T, taken map[api.Id]api.Cell) {
	t.Helper()
	whole := *w
	whole.bases = slices.Repeat([]api.Place{upTo(least)}, w.lanes())
	n := 0
	for lane := range w.lanes() {
		for _, e := range whole.between(lane, upTo(least), w.bases[lane]) {
			if got := taken[api.Id{Lane: lane, Place: e.Place}]; got != e.Cell {
				t.Fatalf("lane %d, %v: %v, want %v", lane, e.Place, got, e.Cell)
			}
			n++
		}
	}
	if n != len(taken) {
		t.Fatalf("%d cells are drained, want %d", len(taken), n)
	}
}

// P17.2: a full basin: 1024 cells come out by batches of each size.
func TestDrainFullBasin(t *testing.T) {
	for _, most := range []int{1, 7, 16} {
		w := plain(t)
		ops := make([]api.Op, api.MaxCells)
		for i := range ops {
			ops[i] = api.Op{Seq: i + 1, Kind: isSample, Time: i * 7 % 64, Key: i / 64 * 3, Value: i}
		}
		ops = append(ops, api.Op{Seq: len(ops) + 1, Kind: isMark, Time: 64})
		if err := w.b.Feed(0, 1, len(ops), []api.Place{upTo(least)}, ops); err != nil {
			t.Fatal(err)
		}
		found, from := 0, upTo(least)
		for {
			b, ok := gate.Next(w.b, 1, 0, most)
			if !ok {
				break
			}
			if !inForm(b) || b.From != from || !ahead(from, b.To) {
				t.Fatal(short(b))
			}
			from = b.To
			found += len(b.Entries)
			if n, err := w.b.Raise(0, b.To); n != len(b.Entries) || err != nil {
				t.Fatal(n, err, short(b))
			}
		}
		if found != api.MaxCells || from != upTo(64) || w.b.Len() != 0 {
			t.Error(most, found, from, w.b.Len())
		}
	}
}

// P17.3: who writes over an answer, or over its room, changes neither the basin nor another answer; asking changes nothing of the basin.
func TestNextIsNewMemory(t *testing.T) {
	odd := api.Entry{Place: at(77, 77), Cell: some(77)}
	for n := range 20 {
		w := made(t, 2, []int{1, 4}, 1)
		for i := range n {
			w.sample(t, i/4, i%4)
		}
		w.mark(t, 12)
		before := all(w.b)
		for most := range 18 {
			for lane := -1; lane <= 2; lane++ {
				one, ok := gate.Next(w.b, 1, lane, most)
				other, otherOk := gate.Next(w.b, 1, lane, most)
				want := cloned(other)
				scribble(one.Entries, odd)
				scribble(gate.Probe(w.b, 1, lane).Entries, odd)
				if ok != otherOk || !equal(other, want) || !slices.Equal(all(w.b), before) {
					t.Fatalf("at most %d of %d cells: the answer isn't new memory", most, n)
				}
				w.expect(t, 1, lane, most)
			}
		}
	}
}

// P17.3: an answer isn't changed by what happens to the basin behind it.
func TestNextStays(t *testing.T) {
	w := plain(t)
	w.samples(t, at(0, 0), at(0, 1), at(1, 0), at(2, 0))
	w.mark(t, 2)
	two, _ := gate.Next(w.b, 1, 0, 2)
	three, _ := gate.Next(w.b, 1, 0, 16)
	probe := gate.Probe(w.b, 1, 0)
	wantTwo, wantThree := cloned(two), cloned(three)
	w.samples(t, at(0, 0), at(0, 1), at(1, 0), at(0, -1))
	w.raise(t, 0, at(0, 1))
	w.mark(t, 5)
	w.raise(t, 0, upTo(5))
	if !equal(two, wantTwo) || !equal(three, wantThree) || !equal(probe, api.Batch{Epoch: 1, From: upTo(least), To: upTo(least)}) {
		t.Error(short(two), short(three), short(probe))
	}
}
