package gate_test

import (
	"math"
	"slices"
	"testing"

	"estuary/api"
	"estuary/basin"
	"estuary/cell"
	"estuary/gate"
)

const (
	least    = math.MinInt
	greatest = math.MaxInt
)

// The document's numbers.
const (
	isSample    = 1
	isMark      = 2
	isBatch     = 8
	mostEntries = 16

	errForm = api.Errno(2)
)

// scramble is a row of numbers without an order to be seen, the same one for each seed.
type scramble uint64

// next is a number from 0 to n - 1.
func (s *scramble) next(n int) int {
	*s = *s*6364136223846793005 + 1442695040888963407
	return int(uint64(*s)>>33) % n
}

// at is a place.
func at(win, key int) api.Place { return api.Place{Win: win, Key: key} }

// upTo is the place ahead of which all is that is ahead of a window.
func upTo(win int) api.Place { return at(win, least) }

// ahead tells whether a place is ahead of another one.
func ahead(a, b api.Place) bool {
	return slices.Compare([]int{a.Win, a.Key}, []int{b.Win, b.Key}) < 0
}

// behind is the place next to a place, which isn't to be the greatest one.
func behind(p api.Place) api.Place {
	if p.Key == greatest {
		return upTo(p.Win + 1)
	}
	return at(p.Win, p.Key+1)
}

// some is a cell that isn't the unit, another one for each number.
func some(n int) api.Cell {
	return cell.One(n%3, api.Op{Seq: n, Time: 10 * n, Value: n})
}

// entry is an entry with a cell that isn't the unit.
func entry(p api.Place) api.Entry { return api.Entry{Place: p, Cell: some(p.Win*7 + p.Key)} }

// entries is entries at places.
func entries(places ...api.Place) []api.Entry {
	var list []api.Entry
	for _, p := range places {
		list = append(list, entry(p))
	}
	return list
}

// counted is so many entries in window 0, by the keys from 0 on.
func counted(n int) []api.Entry {
	var list []api.Entry
	for key := range n {
		list = append(list, entry(at(0, key)))
	}
	return list
}

// batch is a batch of epoch 1 and lane 0.
func batch(from, to api.Place, list ...api.Entry) api.Batch {
	return api.Batch{Epoch: 1, From: from, To: to, Entries: list}
}

// inForm tells whether a batch is in form, by the chapter's words.
func inForm(b api.Batch) bool {
	if b.Epoch < 1 || b.Lane < 0 || ahead(b.To, b.From) || len(b.Entries) > mostEntries {
		return false
	}
	for i, e := range b.Entries {
		if ahead(e.Place, b.From) || !ahead(e.Place, b.To) || e.Cell == (api.Cell{}) {
			return false
		}
		for _, other := range b.Entries[:i] {
			if !ahead(other.Place, e.Place) {
				return false
			}
		}
	}
	return true
}

// expectCheck holds that Check answers as the words say.
func expectCheck(t *testing.T, b api.Batch) {
	t.Helper()
	var want error
	if !inForm(b) {
		want = errForm
	}
	if err := gate.Check(b); err != want {
		t.Fatalf("Check(%v): %v, want %v", short(b), err, want)
	}
}

// equal tells whether two batches are equal.
func equal(a, b api.Batch) bool {
	return a.Epoch == b.Epoch && a.Lane == b.Lane && a.From == b.From && a.To == b.To && slices.Equal(a.Entries, b.Entries)
}

// cloned is a batch with entries of its own.
func cloned(b api.Batch) api.Batch {
	b.Entries = slices.Clone(b.Entries)
	return b
}

// brief is what is told of a batch where a test fails.
type brief struct {
	epoch, lane int
	from, to    api.Place
	places      []api.Place
}

// short is a batch without its cells, which are long.
func short(b api.Batch) brief {
	s := brief{b.Epoch, b.Lane, b.From, b.To, nil}
	for _, e := range b.Entries {
		s.places = append(s.places, e.Place)
	}
	return s
}

// scribble writes over a list, its room included.
func scribble[T any](list []T, odd T) {
	whole := list[:cap(list)]
	for i := range whole {
		whole[i] = odd
	}
}

// roomy is a list with room behind it that isn't empty, and all of it.
func roomy[T any](list []T, odd T) (part, whole []T) {
	whole = append(slices.Clone(list), odd, odd, odd)
	return whole[:len(list)], whole
}

// setup is what a basin is made of.
type setup struct {
	sources int
	res     []int
	shards  int
}

// lanes is how many lanes there are.
func (a setup) lanes() int { return len(a.res) * a.shards }

// window is the window of a time.
func window(time, r int) int {
	if time%r < 0 {
		return time/r - 1
	}
	return time / r
}

// drop is a sample of a source.
type drop struct {
	source int
	op     api.Op
}

// world is a basin and all that it was ever told, from which its next batches are worked out each time.
type world struct {
	setup
	b     *basin.Basin
	drops []drop
	marks [][]int // by source
	bases []api.Place
}

// made is a basin that was told nothing.
func made(t *testing.T, sources int, res []int, shards int) *world {
	t.Helper()
	b, err := basin.New(sources, res, shards, api.MaxCells)
	if err != nil {
		t.Fatal(err)
	}
	a := setup{sources, res, shards}
	return &world{
		setup: a,
		b:     b,
		marks: make([][]int, sources),
		bases: slices.Repeat([]api.Place{upTo(least)}, a.lanes()),
	}
}

// plain is a basin of one source and one lane whose windows are the times themselves.
func plain(t *testing.T) *world {
	t.Helper()
	return made(t, 1, []int{1}, 1)
}

// feed feeds one operation.
func (w *world) feed(t *testing.T, source int, o api.Op) {
	t.Helper()
	o.Seq = w.b.Next(source)
	lowest := slices.Repeat([]api.Place{upTo(least)}, w.lanes())
	if err := w.b.Feed(source, o.Seq, o.Seq, lowest, []api.Op{o}); err != nil {
		t.Fatal(err)
	}
	if o.Kind == isMark {
		w.marks[source] = append(w.marks[source], o.Time)
		return
	}
	w.drops = append(w.drops, drop{source, o})
}

// sample feeds a sample of source 0.
func (w *world) sample(t *testing.T, time, key int) {
	t.Helper()
	w.feed(t, 0, api.Op{Kind: isSample, Time: time, Key: key, Value: 100 + len(w.drops)})
}

// samples feeds a sample for each place of a lane whose windows are the times.
func (w *world) samples(t *testing.T, places ...api.Place) {
	t.Helper()
	for _, p := range places {
		w.sample(t, p.Win, p.Key)
	}
}

// mark feeds marks of the same time to all sources.
func (w *world) mark(t *testing.T, time int) {
	t.Helper()
	for source := range w.sources {
		w.feed(t, source, api.Op{Kind: isMark, Time: time})
	}
}

// raise raises a lane.
func (w *world) raise(t *testing.T, lane int, p api.Place) {
	t.Helper()
	if _, err := w.b.Raise(lane, p); err != nil {
		t.Fatal(err)
	}
	if ahead(w.bases[lane], p) {
		w.bases[lane] = p
	}
}

// has tells whether there is such a lane.
func (w *world) has(lane int) bool { return lane >= 0 && lane < w.lanes() }

// cells is a lane's cells that aren't ahead of its base, by rising places.
func (w *world) cells(lane int) []api.Entry {
	found := map[api.Place]api.Cell{}
	for _, d := range w.drops {
		p := at(window(d.op.Time, w.res[lane/w.shards]), d.op.Key)
		shard := (d.op.Key%w.shards + w.shards) % w.shards
		if shard == lane%w.shards && !ahead(p, w.bases[lane]) {
			found[p] = cell.Join(found[p], cell.One(d.source, d.op))
		}
	}
	var list []api.Entry
	for p, c := range found {
		list = append(list, api.Entry{Place: p, Cell: c})
	}
	slices.SortFunc(list, func(a, b api.Entry) int {
		return slices.Compare([]int{a.Win, a.Key}, []int{b.Win, b.Key})
	})
	return list
}

// closed is the place ahead of which a lane is closed, and whether there is one.
func (w *world) closed(lane int) (api.Place, bool) {
	var marks []int
	for _, times := range w.marks {
		if len(times) == 0 {
			return api.Place{}, false
		}
		marks = append(marks, slices.Max(times))
	}
	return upTo(window(slices.Min(marks), w.res[lane/w.shards])), true
}

// between is the lane's cells from a place on, ahead of another one.
func (w *world) between(lane int, from, to api.Place) []api.Entry {
	var list []api.Entry
	for _, e := range w.cells(lane) {
		if !ahead(e.Place, from) && ahead(e.Place, to) {
			list = append(list, e)
		}
	}
	return list
}

// next is the next batch by the chapter's words.
func (w *world) next(epoch, lane, most int) (api.Batch, bool) {
	if !w.has(lane) || epoch < 1 || most < 1 || most > mostEntries {
		return api.Batch{}, false
	}
	closed, ok := w.closed(lane)
	if !ok || !ahead(w.bases[lane], closed) {
		return api.Batch{}, false
	}
	b := api.Batch{Epoch: epoch, Lane: lane, From: w.bases[lane], To: closed}
	b.Entries = w.between(lane, b.From, closed)
	if len(b.Entries) > most {
		b.Entries = b.Entries[:most]
		b.To = behind(b.Entries[most-1].Place)
	}
	return b, true
}

// probe is the batch without entries by the chapter's words.
func (w *world) probe(epoch, lane int) api.Batch {
	var base api.Place
	if w.has(lane) {
		base = w.bases[lane]
	}
	return api.Batch{Epoch: epoch, Lane: lane, From: base, To: base}
}

// expect holds that Next and Probe answer as the words say, and is what Next answers.
func (w *world) expect(t *testing.T, epoch, lane, most int) (api.Batch, bool) {
	t.Helper()
	want, wantOk := w.next(epoch, lane, most)
	got, ok := gate.Next(w.b, epoch, lane, most)
	if !equal(got, want) || ok != wantOk {
		t.Fatalf("Next(%d, %d, %d): %v, %v, want %v, %v", epoch, lane, most, short(got), ok, short(want), wantOk)
	}
	if ok {
		w.expectGood(t, got, most)
	}
	if got, want := gate.Probe(w.b, epoch, lane), w.probe(epoch, lane); !equal(got, want) {
		t.Fatalf("Probe(%d, %d): %v, want %v", epoch, lane, short(got), short(want))
	}
	return got, ok
}

// expectGood holds that a next batch is as P17.2 says.
func (w *world) expectGood(t *testing.T, b api.Batch, most int) {
	t.Helper()
	closed, _ := w.closed(b.Lane)
	switch {
	case !inForm(b) || gate.Check(b) != nil:
		t.Fatalf("%v isn't in form", short(b))
	case ahead(closed, b.To):
		t.Fatalf("%v is beyond %v", short(b), closed)
	case b.From != w.bases[b.Lane] || !ahead(b.From, b.To):
		t.Fatalf("%v doesn't bring %v forward", short(b), w.bases[b.Lane])
	case len(b.Entries) > most || !slices.Equal(b.Entries, w.between(b.Lane, b.From, b.To)):
		t.Fatalf("%v hasn't just the cells between its places", short(b))
	}
}

// written holds that the next batch is from a place to another one, with cells at these places.
func (w *world) written(t *testing.T, most int, from, to api.Place, places ...api.Place) {
	t.Helper()
	b, ok := w.expect(t, 1, 0, most)
	if got := short(b); !ok || got.from != from || got.to != to || !slices.Equal(got.places, places) {
		t.Fatalf("Next of at most %d: %v, %v, want from %v to %v with %v", most, got, ok, from, to, places)
	}
}

// none holds that there is no next batch of lane 0.
func (w *world) none(t *testing.T) {
	t.Helper()
	for most := range mostEntries + 3 {
		if b, ok := w.expect(t, 1, 0, most-1); ok {
			t.Fatalf("Next of at most %d: %v", most-1, short(b))
		}
	}
}

// all is all that a basin tells of its sources and lanes.
func all(b *basin.Basin) []api.Entry {
	list := []api.Entry{{Place: at(b.Len(), b.Lanes())}}
	for source := range api.MaxSources {
		mark, _ := b.Mark(source)
		list = append(list, api.Entry{Place: at(b.Next(source), mark)})
	}
	for lane := range b.Lanes() {
		closed, _ := b.Closed(lane)
		list = append(list, api.Entry{Place: b.Base(lane)}, api.Entry{Place: closed})
		list = append(list, b.List(lane, at(greatest, greatest), api.MaxCells)...)
	}
	return list
}
