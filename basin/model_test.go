package basin_test

import (
	"maps"
	"math"
	"math/big"
	"slices"
	"testing"

	"estuary/api"
	"estuary/basin"
)

const (
	least    = math.MinInt
	greatest = math.MaxInt
)

// The document's numbers.
const (
	isSample = 1
	isMark   = 2

	errRange = api.Errno(1)
	errForm  = api.Errno(2)
	errFull  = api.Errno(7)
	errStale = api.Errno(11)
)

// scramble is a row of numbers without an order to be seen, the same one for each seed.
type scramble uint64

// next is a number from 0 to n - 1.
func (s *scramble) next(n int) int {
	*s = *s*6364136223846793005 + 1442695040888963407
	return int(uint64(*s)>>33) % n
}

// sample is a sample of key 0 with a value that tells it from others.
func sample(seq, time int) api.Op { return sampleOf(seq, time, 0) }

// sampleOf is a sample of a key.
func sampleOf(seq, time, key int) api.Op {
	return api.Op{Seq: seq, Kind: isSample, Time: time, Key: key, Value: 1000 + seq}
}

// mark is a mark.
func mark(seq, time int) api.Op { return api.Op{Seq: seq, Kind: isMark, Time: time} }

// at is a place.
func at(win, key int) api.Place { return api.Place{Win: win, Key: key} }

// upTo is the place ahead of which all is that is ahead of a window.
func upTo(win int) api.Place { return at(win, least) }

// named is a cell's name.
func named(lane, win, key int) api.Id { return api.Id{Lane: lane, Place: at(win, key)} }

// repeat is a place so many times.
func repeat(p api.Place, n int) []api.Place { return slices.Repeat([]api.Place{p}, n) }

// row is operations.
func row(ops ...api.Op) []api.Op { return ops }

// ahead tells whether a place is ahead of another one.
func ahead(a, b api.Place) bool {
	return a.Win < b.Win || a.Win == b.Win && a.Key < b.Key
}

// behind is the place next to a place, which isn't to be the greatest one.
func behind(p api.Place) api.Place {
	if p.Key == greatest {
		return upTo(p.Win + 1)
	}
	return at(p.Win, p.Key+1)
}

// window is the window of a time.
func window(time, r int) int {
	if time%r < 0 {
		return time/r - 1
	}
	return time / r
}

// drop is a sample of a source.
type drop struct {
	source int
	op     api.Op
}

// order is the numbers by which samples are compared, the first one first.
func (d drop) order() []int { return []int{d.op.Time, d.source, d.op.Seq, d.op.Value} }

// cellOf is the cell of samples, worked out from all of them at once.
func cellOf(drops []drop) api.Cell {
	var c api.Cell
	if len(drops) == 0 {
		return c
	}
	var values []int
	sum := new(big.Int)
	for _, d := range drops {
		value := big.NewInt(int64(d.op.Value))
		values = append(values, d.op.Value)
		sum.Add(sum, value)
		c.Hist[value.BitLen()]++
	}
	last := slices.MaxFunc(drops, func(a, b drop) int { return slices.Compare(a.order(), b.order()) })
	c.Count = len(drops)
	c.Sum = wide(sum)
	c.Min, c.Max = slices.Min(values), slices.Max(values)
	c.Last = api.Last{Time: last.op.Time, Source: last.source, Seq: last.op.Seq, Value: last.op.Value}
	return c
}

// wide is a number in two halves.
func wide(n *big.Int) api.Wide {
	rest := new(big.Int).Mod(n, new(big.Int).Lsh(big.NewInt(1), 128)) // never below 0
	hi := new(big.Int).Rsh(rest, 64).Uint64()
	lo := new(big.Int).And(rest, new(big.Int).SetUint64(math.MaxUint64)).Uint64()
	return api.Wide{Hi: int(hi), Lo: uint(lo)}
}

// setup is what a basin is made of.
type setup struct {
	sources      int
	res          []int
	shards, most int
}

// lanes is how many lanes there are.
func (a setup) lanes() int { return len(a.res) * a.shards }

// lowest is a cut of the least places, which raises nothing.
func (a setup) lowest() []api.Place { return repeat(at(least, least), a.lanes()) }

// names is the names of a sample's cells.
func (a setup) names(o api.Op) []api.Id {
	var list []api.Id
	shard := (o.Key%a.shards + a.shards) % a.shards
	for i, r := range a.res {
		list = append(list, named(i*a.shards+shard, window(o.Time, r), o.Key))
	}
	return list
}

// model is a basin by the chapter's words: it keeps all that was taken, and works out its cells from that each time.
type model struct {
	setup
	next  []int
	marks [][]int // of each source the times of all marks that were taken
	bases []api.Place
	taken []drop // all samples that were taken, those that are gone included
}

// newModel is a model without cells.
func newModel(a setup) *model {
	a.res = slices.Clone(a.res)
	return &model{
		setup: a,
		next:  slices.Repeat([]int{1}, a.sources),
		marks: make([][]int, a.sources),
		bases: repeat(at(least, least), a.lanes()),
	}
}

// cells is the cells of samples that aren't ahead of the bases, each with its samples.
func (m *model) cells(drops []drop) map[api.Id][]drop {
	cells := map[api.Id][]drop{}
	for _, d := range drops {
		for _, id := range m.names(d.op) {
			if !ahead(id.Place, m.bases[id.Lane]) {
				cells[id] = append(cells[id], d)
			}
		}
	}
	return cells
}

// inForm tells whether what is fed is in form.
func (m *model) inForm(source, from, last int, cut []api.Place, ops []api.Op) bool {
	if source < 0 || source >= m.sources || len(cut) != m.lanes() {
		return false
	}
	below := from - 1 // wraps around
	if last < below {
		return false
	}
	var seqs []int
	for _, o := range ops {
		if o.Kind != isSample && o.Kind != isMark || o.Seq < from || o.Seq > last {
			return false
		}
		seqs = append(seqs, o.Seq)
	}
	return slices.IsSorted(seqs) && len(slices.Compact(seqs)) == len(ops)
}

// feed is what the model answers to a part of a stream, which it takes.
func (m *model) feed(source, from, last int, cut []api.Place, ops []api.Op) error {
	if !m.inForm(source, from, last, cut, ops) {
		return errForm
	}
	if from != m.next[source] {
		return errStale
	}
	for lane, p := range cut {
		m.raise(lane, p)
	}
	for _, o := range ops {
		if o.Kind == isMark {
			m.marks[source] = append(m.marks[source], o.Time)
			continue
		}
		with := append(slices.Clone(m.taken), drop{source, o})
		if len(m.cells(with)) > m.most {
			m.next[source] = o.Seq
			return errFull
		}
		m.taken = with
	}
	m.next[source] = last + 1
	return nil
}

// raise raises the model, and is how many cells are gone.
func (m *model) raise(lane int, p api.Place) (int, error) {
	if lane < 0 || lane >= m.lanes() {
		return 0, errRange
	}
	before := len(m.cells(m.taken))
	if ahead(m.bases[lane], p) {
		m.bases[lane] = p
	}
	return before - len(m.cells(m.taken)), nil
}

// mark is a source's mark in the model.
func (m *model) mark(source int) (int, bool) {
	if source < 0 || source >= m.sources || len(m.marks[source]) == 0 {
		return 0, false
	}
	return slices.Max(m.marks[source]), true
}

// closed is what is closed in the model.
func (m *model) closed(lane int) (api.Place, bool) {
	if lane < 0 || lane >= m.lanes() {
		return api.Place{}, false
	}
	var marks []int
	for source := range m.sources {
		time, ok := m.mark(source)
		if !ok {
			return api.Place{}, false
		}
		marks = append(marks, time)
	}
	return upTo(window(slices.Min(marks), m.res[lane/m.shards])), true
}

// list is a lane's cells in the model, ahead of a place.
func (m *model) list(lane int, to api.Place, most int) []api.Entry {
	var list []api.Entry
	for id, drops := range m.cells(m.taken) {
		if id.Lane == lane && ahead(id.Place, to) {
			list = append(list, api.Entry{Place: id.Place, Cell: cellOf(drops)})
		}
	}
	slices.SortFunc(list, func(a, b api.Entry) int {
		return slices.Compare([]int{a.Win, a.Key}, []int{b.Win, b.Key})
	})
	return list[:min(len(list), max(most, 0))]
}

// pair is a basin and its model, which are told the same.
type pair struct {
	b *basin.Basin
	m *model
}

// made is a new basin, which is to be made.
func made(t *testing.T, a setup) *basin.Basin {
	t.Helper()
	b, err := basin.New(a.sources, a.res, a.shards, a.most)
	if err != nil || b == nil {
		t.Fatalf("New(%v): %v", a, err)
	}
	return b
}

// both is a new basin and its model.
func both(t *testing.T, a setup) pair {
	t.Helper()
	p := pair{made(t, a), newModel(a)}
	p.check(t)
	return p
}

// feed feeds a part of a stream, and is the answer.
func (p pair) feed(t *testing.T, source, from, last int, cut []api.Place, ops []api.Op) error {
	t.Helper()
	want := p.m.feed(source, from, last, cut, ops)
	if got := p.b.Feed(source, from, last, cut, ops); got != want {
		t.Fatalf("Feed(%d, %d, %d, %v, %v): %v, want %v", source, from, last, cut, ops, got, want)
	}
	p.check(t)
	return want
}

// expect feeds a part of a stream, and holds the answer against a written one.
func (p pair) expect(t *testing.T, want error, source, from, last int, cut []api.Place, ops []api.Op) {
	t.Helper()
	if got := p.feed(t, source, from, last, cut, ops); got != want {
		t.Fatalf("Feed(%d, %d, %d, %v, %v): %v, want %v", source, from, last, cut, ops, got, want)
	}
}

// take feeds operations from the next number up to the last of them, with a cut that raises nothing; all are to be taken.
func (p pair) take(t *testing.T, source int, ops ...api.Op) {
	t.Helper()
	p.expect(t, nil, source, p.m.next[source], ops[len(ops)-1].Seq, p.m.lowest(), ops)
}

// raise raises a lane, and is how many cells are gone.
func (p pair) raise(t *testing.T, lane int, to api.Place) int {
	t.Helper()
	want, wantErr := p.m.raise(lane, to)
	if got, err := p.b.Raise(lane, to); got != want || err != wantErr {
		t.Fatalf("Raise(%d, %v): %d, %v, want %d, %v", lane, to, got, err, want, wantErr)
	}
	p.check(t)
	return want
}

// check checks all that a basin tells, twice, so that none of its calls changes what another one answers.
func (p pair) check(t *testing.T) {
	t.Helper()
	for range 2 {
		p.checkSources(t)
		p.checkLanes(t)
		p.checkCells(t)
	}
}

// checkSources checks what is told of sources, and of some that aren't there.
func (p pair) checkSources(t *testing.T) {
	t.Helper()
	for _, source := range append(upAround(p.m.sources), least, greatest) {
		next := 0
		if source >= 0 && source < p.m.sources {
			next = p.m.next[source]
		}
		if got := p.b.Next(source); got != next {
			t.Fatalf("Next(%d): %d, want %d", source, got, next)
		}
		want, wantOk := p.m.mark(source)
		if got, ok := p.b.Mark(source); got != want || ok != wantOk {
			t.Fatalf("Mark(%d): %d, %v, want %d, %v", source, got, ok, want, wantOk)
		}
	}
}

// upAround is the numbers from -1 up to one.
func upAround(n int) []int {
	var list []int
	for i := -1; i <= n; i++ {
		list = append(list, i)
	}
	return list
}

// checkLanes checks what is told of lanes, and of some that aren't there.
func (p pair) checkLanes(t *testing.T) {
	t.Helper()
	if got := p.b.Lanes(); got != p.m.lanes() {
		t.Fatalf("Lanes: %d, want %d", got, p.m.lanes())
	}
	for _, lane := range append(upAround(p.m.lanes()), least, greatest) {
		var base api.Place
		if lane >= 0 && lane < p.m.lanes() {
			base = p.m.bases[lane]
		}
		if got := p.b.Base(lane); got != base {
			t.Fatalf("Base(%d): %v, want %v", lane, got, base)
		}
		want, wantOk := p.m.closed(lane)
		if got, ok := p.b.Closed(lane); got != want || ok != wantOk {
			t.Fatalf("Closed(%d): %v, %v, want %v, %v", lane, got, ok, want, wantOk)
		}
		p.checkList(t, lane, at(greatest, greatest), 1<<20)
	}
}

// checkList checks a lane's list.
func (p pair) checkList(t *testing.T, lane int, to api.Place, most int) {
	t.Helper()
	want := p.m.list(lane, to, most)
	if got := p.b.List(lane, to, most); !slices.Equal(got, want) {
		t.Fatalf("List(%d, %v, %d): %v, want %v", lane, to, most, placesOf(got), placesOf(want))
	}
}

// placesOf is the places of entries.
func placesOf(list []api.Entry) []api.Place {
	var places []api.Place
	for _, e := range list {
		places = append(places, e.Place)
	}
	return places
}

// checkCells checks each cell of all samples that were ever taken, those that are gone included, and how many there are.
func (p pair) checkCells(t *testing.T) {
	t.Helper()
	cells := p.m.cells(p.m.taken)
	if got := p.b.Len(); got != len(cells) || got > p.m.most {
		t.Fatalf("Len: %d, want %d, at most %d", got, len(cells), p.m.most)
	}
	for _, d := range p.m.taken {
		for _, id := range p.m.names(d.op) {
			drops, wantOk := cells[id]
			if got, ok := p.b.Cell(id); got != cellOf(drops) || ok != wantOk {
				t.Fatalf("Cell(%v): %v, %v, want %v, %v", id, got, ok, cellOf(drops), wantOk)
			}
		}
	}
}

// ids is the names of all cells that the model holds.
func (m *model) ids() []api.Id {
	ids := slices.Collect(maps.Keys(m.cells(m.taken)))
	slices.SortFunc(ids, func(a, b api.Id) int {
		return slices.Compare([]int{a.Lane, a.Win, a.Key}, []int{b.Lane, b.Win, b.Key})
	})
	return ids
}
