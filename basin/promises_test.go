package basin_test

import (
	"slices"
	"testing"

	"estuary/api"
	"estuary/basin"
	"estuary/stream"
)

// gathered is the samples of streams whose numbers a basin has behind it.
func gathered(b *basin.Basin, streams [][]api.Op) []drop {
	var drops []drop
	for source, ops := range streams {
		for _, o := range ops {
			if o.Kind == isSample && o.Seq < b.Next(source) {
				drops = append(drops, drop{source, o})
			}
		}
	}
	return drops
}

// expectWhole holds that a basin has just the cells of what was taken that aren't ahead of its bases, each whole.
func expectWhole(t *testing.T, a setup, b *basin.Basin, streams [][]api.Op) {
	t.Helper()
	cells := map[api.Id][]drop{}
	for _, d := range gathered(b, streams) {
		for _, id := range a.names(d.op) {
			if !ahead(id.Place, b.Base(id.Lane)) {
				cells[id] = append(cells[id], d)
			}
		}
	}
	if b.Len() != len(cells) || b.Len() > a.most {
		t.Fatalf("%d cells, want %d, at most %d", b.Len(), len(cells), a.most)
	}
	for id, drops := range cells {
		if c, ok := b.Cell(id); c != cellOf(drops) || !ok {
			t.Fatalf("Cell(%v): %v, %v, want %v", id, c, ok, cellOf(drops))
		}
	}
}

// contents is all that a basin tells of its lanes.
func contents(b *basin.Basin) []api.Entry {
	var list []api.Entry
	for lane := range b.Lanes() {
		list = append(list, api.Entry{Place: b.Base(lane)})
		list = append(list, b.List(lane, at(greatest, greatest), 1<<20)...)
	}
	return list
}

// P16.2: two short streams, in all parts and in all orders of the sources; parts that come twice change nothing.
func TestAllPartsAndOrders(t *testing.T) {
	a := setup{2, []int{10, 30}, 2, 99}
	streams := [][]api.Op{
		{sampleOf(1, 5, 1), mark(2, 3), sampleOf(3, 15, 2), sampleOf(4, 9, 1)},
		{sampleOf(1, -5, 1), sampleOf(2, 5, 1), mark(3, 5), sampleOf(4, 35, -2)},
	}
	var ends [][]api.Entry
	var grow func(parts []part, done [2]int)
	grow = func(parts []part, done [2]int) {
		for source, ops := range streams {
			for n := done[source] + 1; n <= len(ops); n++ {
				next := done
				next[source] = n
				x := part{source, done[source] + 1, n, a.lowest(), ops[done[source]:n]}
				grow(append(slices.Clone(parts), x), next)
			}
		}
		if done == [2]int{4, 4} {
			ends = append(ends, fedBy(t, a, streams, parts))
		}
	}
	grow(nil, [2]int{})
	for _, end := range ends {
		if !slices.Equal(end, ends[0]) {
			t.Fatal("what is held hangs on the parts")
		}
	}
	if len(ends) < 800 {
		t.Error("too few rows of parts:", len(ends))
	}
}

// fedBy is what a basin holds behind parts of streams.
func fedBy(t *testing.T, a setup, streams [][]api.Op, parts []part) []api.Entry {
	t.Helper()
	b := made(t, a)
	for _, x := range parts {
		for _, want := range []error{nil, errStale} {
			if err := b.Feed(x.source, x.from, x.last, x.cut, x.ops); err != want {
				t.Fatalf("%v: %v, want %v", x, err, want)
			}
			expectWhole(t, a, b, streams)
		}
	}
	return contents(b)
}

// springs is sources that keep to their marks, with all that they ever emitted, and what was flushed of them.
type springs struct {
	setup
	streams []*stream.Stream
	all     [][]api.Op
	cursor  []api.Place
}

// newSprings is sources that emitted nothing.
func newSprings(t *testing.T, a setup) *springs {
	t.Helper()
	w := &springs{setup: a, all: make([][]api.Op, a.sources), cursor: a.lowest()}
	for range a.sources {
		s, err := stream.New(a.res, a.shards, 10)
		if err != nil {
			t.Fatal(err)
		}
		w.streams = append(w.streams, s)
	}
	return w
}

// emit lets a source emit an operation, if it takes one.
func (w *springs) emit(s *scramble) {
	source := s.next(w.sources)
	str := w.streams[source]
	_, time, _ := str.Last()
	o, err := str.Sample(time+s.next(15), s.next(5)-2, s.next(100)-50)
	if s.next(3) == 0 {
		o, err = str.Mark(time + s.next(20))
	}
	if err == nil && str.Put(o) == nil {
		w.all[source] = append(w.all[source], o)
	}
}

// pull feeds a basin with a source's replay, and is what that answers.
func (w *springs) pull(b *basin.Basin, source, most int) error {
	next := b.Next(source)
	ops, last := w.streams[source].Replay(next, most)
	return b.Feed(source, next, last, w.streams[source].Places(), ops)
}

// flush raises lanes of a basin within what is closed, to its end or behind a first cell, and with them the cursor.
func (w *springs) flush(t *testing.T, s *scramble, b *basin.Basin) {
	t.Helper()
	for lane := range w.lanes() {
		to, ok := b.Closed(lane)
		if !ok {
			return
		}
		if l := b.List(lane, to, 1); s.next(3) == 0 && len(l) == 1 {
			to = behind(l[0].Place)
		}
		if _, err := b.Raise(lane, to); err != nil {
			t.Fatal(err)
		}
		if base := b.Base(lane); ahead(w.cursor[lane], base) {
			w.cursor[lane] = base
		}
	}
}

// sight is what was closed in a lane at a time, from its base on.
type sight struct {
	lane     int
	base, to api.Place
	list     []api.Entry
}

// sights is what is closed in each lane.
func sights(b *basin.Basin) []sight {
	var list []sight
	for lane := range b.Lanes() {
		if to, ok := b.Closed(lane); ok {
			list = append(list, sight{lane, b.Base(lane), to, b.List(lane, to, 1<<20)})
		}
	}
	return list
}

// expectComplete holds that what was closed had all samples that were ever emitted there.
func (w *springs) expectComplete(t *testing.T, seen []sight) {
	t.Helper()
	full := made(t, setup{w.sources, w.res, w.shards, 1024})
	for source, ops := range w.all {
		if err := full.Feed(source, 1, len(ops), w.lowest(), ops); err != nil {
			t.Fatal(err)
		}
	}
	for _, x := range seen {
		var want []api.Entry
		for _, e := range full.List(x.lane, x.to, 1<<20) {
			if !ahead(e.Place, x.base) {
				want = append(want, e)
			}
		}
		if !slices.Equal(x.list, want) {
			t.Fatalf("lane %d from %v to %v: %v, want %v", x.lane, x.base, x.to, placesOf(x.list), placesOf(want))
		}
	}
}

// expectNothingAhead holds that no sample from numbers on lies ahead of what was closed.
func (w *springs) expectNothingAhead(t *testing.T, next []int, seen []sight) {
	t.Helper()
	for source, ops := range w.all {
		for _, o := range ops {
			if o.Kind != isSample || o.Seq < next[source] {
				continue
			}
			for _, id := range w.names(o) {
				for _, x := range seen {
					if x.lane == id.Lane && ahead(id.Place, x.to) {
						t.Fatalf("%v of source %d comes behind what is closed: lane %d up to %v", o, source, x.lane, x.to)
					}
				}
			}
		}
	}
}

// nexts is a basin's next numbers.
func nexts(b *basin.Basin, sources int) []int {
	var list []int
	for source := range sources {
		list = append(list, b.Next(source))
	}
	return list
}

// P16.2, P16.3, P16.4: sources that emit, cut and replay, basins that take, flush and begin anew: cells are of just what was taken, and what is closed is complete.
func TestSourcesAndBasins(t *testing.T) {
	shapes := []setup{
		{1, []int{10}, 1, 4},
		{2, []int{10, 30}, 1, 16},
		{3, []int{5, 20, 60}, 2, 45},
		{4, []int{10, 15}, 4, 200},
	}
	full, dropped, cells := 0, 0, 0
	for seed := range 40 {
		s := scramble(1000 + seed)
		w := newSprings(t, shapes[seed%len(shapes)])
		basins := []*basin.Basin{made(t, w.setup), made(t, w.setup)}
		var seen []sight
		for range 300 {
			i := s.next(2)
			switch s.next(22) {
			case 0:
				basins[i] = made(t, w.setup)
			case 1, 2:
				w.flush(t, &s, basins[i])
			case 4:
				n, err := w.streams[s.next(w.sources)].Cut(w.cursor)
				if err != nil {
					t.Fatal(err)
				}
				dropped += n
			case 5, 6, 7, 8, 9, 10, 11, 12:
				w.emit(&s)
			default:
				switch err := w.pull(basins[i], s.next(w.sources), 1+s.next(5)); err {
				case errFull:
					full++
				case nil:
				default:
					t.Fatal(err)
				}
			}
			expectWhole(t, w.setup, basins[i], w.all)
			now := sights(basins[i])
			w.expectNothingAhead(t, nexts(basins[i], w.sources), now)
			seen = append(seen, now...)
		}
		w.expectComplete(t, seen)
		for _, x := range seen {
			cells += len(x.list)
		}
	}
	if full < 100 || dropped < 100 || cells < 1000 {
		t.Error("too little came:", full, dropped, cells)
	}
}

// P16.4: samples from just the mark's time on don't lie ahead of what it closes; one below it would.
func TestNothingComesAheadOfWhatIsClosed(t *testing.T) {
	for _, r := range []int{1, 7, 10, greatest} {
		for _, time := range []int{least, -11, -10, -1, 0, 1, 9, 10, 11, 59, 60, greatest - 1, greatest} {
			for _, key := range []int{least, -1, 0, greatest} {
				p := both(t, setup{2, []int{r}, 4, 9})
				p.take(t, 0, mark(1, time))
				p.take(t, 1, mark(1, greatest))
				p.take(t, 0, sampleOf(2, time, key))
				for lane := range 4 {
					to, ok := p.b.Closed(lane)
					if l := p.b.List(lane, to, 9); !ok || len(l) != 0 {
						t.Fatalf("resolution %d, mark %d, key %d: %v lies ahead of %v", r, time, key, placesOf(l), to)
					}
				}
			}
		}
	}
}

// P16.3: a part that ends at a sample without room has done just what the part ahead of that sample does.
func TestFullEndsThePart(t *testing.T) {
	full := 0
	for seed := range 200 {
		s := scramble(5000 + seed)
		a := setup{2, []int{10, 25, 60}, 1 + s.next(3), 1 + s.next(12)}
		b, c := made(t, a), made(t, a)
		for range 6 {
			source := s.next(2)
			next := b.Next(source)
			ops, last := anyOps(&s, next)
			cut := anyCut(&s, a.lanes())
			err := b.Feed(source, next, last, cut, ops)
			if err == errFull {
				full++
				n := slices.IndexFunc(ops, func(o api.Op) bool { return o.Seq == b.Next(source) })
				if n < 0 || ops[n].Kind != isSample {
					t.Fatalf("it goes on at %d of %v", b.Next(source), ops)
				}
				ops, last, err = ops[:n], b.Next(source)-1, nil
			}
			if got := c.Feed(source, next, last, cut, ops); got != err || b.Len() > a.most {
				t.Fatal(got, err, b.Len(), a.most)
			}
			time, ok := b.Mark(source)
			expectMark(t, c, source, time, ok)
			if !slices.Equal(contents(b), contents(c)) || b.Len() != c.Len() || b.Next(source) != c.Next(source) {
				t.Fatalf("behind %v: %v, want %v", ops, placesOf(contents(b)), placesOf(contents(c)))
			}
		}
	}
	if full < 100 {
		t.Error("too few were full:", full)
	}
}

// P16.1: what is answered doesn't hang on the order in which cells are gone through.
func TestTheSameEachTime(t *testing.T) {
	a := setup{1, []int{1, 1000}, 2, 500}
	var first []api.Entry
	for range 20 {
		b := made(t, a)
		var ops []api.Op
		for i := range 120 {
			ops = append(ops, sampleOf(i+1, i*37%100, i%9-4))
		}
		if err := b.Feed(0, 1, 120, a.lowest(), ops); err != nil {
			t.Fatal(err)
		}
		if n, err := b.Raise(0, upTo(50)); n == 0 || err != nil {
			t.Fatal(n, err)
		}
		got := append(contents(b), b.List(1, upTo(90), 7)...)
		if first == nil {
			first = got
		}
		if !slices.Equal(got, first) {
			t.Fatal(placesOf(got), placesOf(first))
		}
	}
}

// roomy is a list with room behind it that holds something.
func roomy[T any](list []T, filler T) (whole, part []T) {
	whole = append(slices.Clone(list), slices.Repeat([]T{filler}, 8)...)
	return whole, whole[:len(list)]
}

// scribble writes over a list and its room.
func scribble[T any](list []T, filler T) {
	list = list[:cap(list)]
	for i := range list {
		list[i] = filler
	}
}

// P16.5: New neither changes nor keeps the resolutions, nor their room.
func TestNewKeepsNothing(t *testing.T) {
	whole, res := roomy([]int{10, 60}, 77)
	before := slices.Clone(whole)
	a := setup{2, res, 2, 9}
	p := pair{made(t, a), newModel(a)}
	p.take(t, 0, sampleOf(1, 15, 1), mark(2, 70))
	p.take(t, 1, mark(1, 70))
	if !slices.Equal(whole, before) {
		t.Error("the resolutions were changed:", whole)
	}
	scribble(whole, 1)
	p.check(t)
	p.take(t, 0, sampleOf(3, 75, 2), sampleOf(4, 79, 1))
	p.raise(t, 1, upTo(2))
	if !slices.Equal(whole, slices.Repeat([]int{1}, len(whole))) {
		t.Error("the resolutions were changed:", whole)
	}
}

// P16.5: Feed neither changes nor keeps the cut and the operations, nor their room, whatever it answers.
func TestFeedKeepsNothing(t *testing.T) {
	odd, far := sample(99, 99), at(99, 99)
	feed := func(p pair, want error, source, from, last int, cut []api.Place, ops []api.Op) {
		t.Helper()
		wholeCut, cut := roomy(cut, far)
		wholeOps, ops := roomy(ops, odd)
		beforeCut, beforeOps := slices.Clone(wholeCut), slices.Clone(wholeOps)
		p.expect(t, want, source, from, last, cut, ops)
		if !slices.Equal(wholeCut, beforeCut) || !slices.Equal(wholeOps, beforeOps) {
			t.Error("changed:", wholeCut, wholeOps)
		}
		scribble(wholeCut, far)
		scribble(wholeOps, odd)
		p.check(t)
	}
	p := both(t, paired(5))
	feed(p, nil, 0, 1, 3, []api.Place{upTo(0), upTo(0)}, row(sample(1, 5), sample(2, 75), mark(3, 60)))
	feed(p, nil, 1, 1, 2, []api.Place{upTo(-1), upTo(-1)}, row(sample(1, 75), mark(2, 60)))
	feed(p, errStale, 0, 1, 3, []api.Place{upTo(1), upTo(1)}, row(sample(1, 5), mark(3, 60)))
	feed(p, errForm, 0, 4, 5, []api.Place{upTo(1), upTo(1)}, row(sample(5, 5), sample(4, 5)))
	feed(p, errForm, 0, 4, 5, []api.Place{upTo(1)}, row(sample(4, 5)))
	feed(p, errFull, 0, 4, 9, []api.Place{at(0, 1), upTo(0)}, row(sample(4, 95), mark(5, 70), sample(6, 205), sample(7, 305)))
	feed(p, nil, 0, 6, 7, []api.Place{upTo(9), upTo(1)}, row(sample(6, 205), sample(7, 3)))
	p.raise(t, 0, upTo(20))
	feed(p, nil, 0, 8, 7, []api.Place{upTo(30), upTo(7)}, nil)
}

// P16.5: answers are new memory: who writes over one, or over its room, changes neither the basin nor another answer.
func TestAnswersAreNewMemory(t *testing.T) {
	p := both(t, setup{2, []int{10, 60}, 1, 60})
	odd := api.Entry{Place: at(99, 99)}
	end := at(greatest, greatest)
	for i := range 12 {
		p.take(t, i%2, sampleOf(p.m.next[i%2], 7*i, i%3), mark(p.m.next[i%2]+1, i))
		for lane := range 2 {
			for most := range 20 {
				one, other := p.b.List(lane, end, most), p.b.List(lane, end, most)
				want := slices.Clone(other)
				scribble(one, odd)
				if !slices.Equal(other, want) {
					t.Fatal("two answers share memory")
				}
			}
		}
		p.check(t)
		// Nor is an answer changed by what happens to the basin behind it.
		list := p.b.List(0, end, 99)
		want := slices.Clone(list)
		p.take(t, 0, sampleOf(p.m.next[0], 7*i, i%3), sampleOf(p.m.next[0]+1, 1000+i, 0))
		p.raise(t, 0, upTo(i/3))
		if !slices.Equal(list, want) {
			t.Fatal("an answer was changed")
		}
	}
}

// P16.1: basins share nothing.
func TestBasinsAreApart(t *testing.T) {
	p, q := both(t, paired(4)), both(t, paired(4))
	p.take(t, 0, sample(1, 5), mark(2, 5))
	q.check(t)
	q.take(t, 1, sample(1, 15))
	q.raise(t, 0, upTo(9))
	p.check(t)
	p.take(t, 1, sample(1, 25))
	q.check(t)
}
