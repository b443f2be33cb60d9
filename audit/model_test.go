package audit_test

import (
	"math"
	"math/big"
	"slices"
	"testing"

	"estuary/api"
	"estuary/audit"
)

// As the document writes them.
const (
	least       = math.MinInt
	greatest    = math.MaxInt
	mostEntries = 16

	isSample = 1
	isMark   = 2

	errRange  = api.Errno(1)
	errForm   = api.Errno(2)
	errStale  = api.Errno(11)
	errNotYet = api.Errno(12)
	errPlan   = api.Errno(14)
)

// scramble is a row of numbers without an order to be seen, the same one for each seed.
type scramble uint64

// next is a number from 0 to n - 1.
func (s *scramble) next(n int) int {
	*s = *s*6364136223846793005 + 1442695040888963407
	return int(uint64(*s)>>33) % n
}

// of is one of some numbers.
func (s *scramble) of(list ...int) int { return list[s.next(len(list))] }

// at is a place.
func at(win, key int) api.Place { return api.Place{Win: win, Key: key} }

// upTo is the place ahead of which all is that is ahead of a window.
func upTo(win int) api.Place { return at(win, least) }

// start is the least place.
func start() api.Place { return upTo(least) }

// end is the greatest place.
func end() api.Place { return at(greatest, greatest) }

// ahead tells whether a place is ahead of another one.
func ahead(a, b api.Place) bool {
	return a.Win < b.Win || a.Win == b.Win && a.Key < b.Key
}

// behind is the place next to a place, which isn't to be the greatest one.
func behind(p api.Place) api.Place {
	if p.Key == greatest {
		return upTo(p.Win + 1)
	}
	return at(p.Win, p.Key+1)
}

// named is a cell's name.
func named(lane, win, key int) api.Id { return api.Id{Lane: lane, Place: at(win, key)} }

// byName compares names.
func byName(a, b api.Id) int {
	return slices.Compare([]int{a.Lane, a.Win, a.Key}, []int{b.Lane, b.Win, b.Key})
}

// sample is a sample.
func sample(seq, time, key, value int) api.Op {
	return api.Op{Seq: seq, Kind: isSample, Time: time, Key: key, Value: value}
}

// mark is a mark.
func mark(seq, time int) api.Op { return api.Op{Seq: seq, Kind: isMark, Time: time} }

// sized is a good plan of so many sources and shards, of some resolutions.
func sized(sources, shards int, res ...int) api.Plan {
	return api.Plan{Sources: sources, Keepers: 1, Res: res, Shards: shards, Hold: 8, Cells: 9, Batch: 2, Lease: 2}
}

// lanes is how many lanes a good plan has.
func lanes(p api.Plan) int { return len(p.Res) * p.Shards }

// div is a quotient, rounded down; r is at least 1.
func div(time, r int) int {
	// With a divisor above 0 the big quotient is never rounded up.
	return int(new(big.Int).Div(big.NewInt(int64(time)), big.NewInt(int64(r))).Int64())
}

// shard is a key's shard.
func shard(key, shards int) int {
	return int(new(big.Int).Mod(big.NewInt(int64(key)), big.NewInt(int64(shards))).Int64())
}

// namesOf is the names of a sample's cells.
func namesOf(p api.Plan, o api.Op) []api.Id {
	var list []api.Id
	for i, r := range p.Res {
		list = append(list, named(i*p.Shards+shard(o.Key, p.Shards), div(o.Time, r), o.Key))
	}
	return list
}

// drop is a sample of a source.
type drop struct {
	source int
	op     api.Op
}

// order is the numbers by which samples are compared, the first one first.
func (d drop) order() []int { return []int{d.op.Time, d.source, d.op.Seq, d.op.Value} }

// cellOf is the cell of samples, worked out from all of them at once.
func cellOf(drops []drop) api.Cell {
	var c api.Cell
	if len(drops) == 0 {
		return c
	}
	var values []int
	sum := new(big.Int)
	for _, d := range drops {
		value := big.NewInt(int64(d.op.Value))
		values = append(values, d.op.Value)
		sum.Add(sum, value)
		c.Hist[value.BitLen()]++
	}
	last := slices.MaxFunc(drops, func(a, b drop) int { return slices.Compare(a.order(), b.order()) })
	c.Count = len(drops)
	c.Sum = wide(sum)
	c.Min, c.Max = slices.Min(values), slices.Max(values)
	c.Last = api.Last{Time: last.op.Time, Source: last.source, Seq: last.op.Seq, Value: last.op.Value}
	return c
}

// wide is a number in two halves.
func wide(n *big.Int) api.Wide {
	rest := new(big.Int).Mod(n, new(big.Int).Lsh(big.NewInt(1), 128)) // never below 0
	hi := new(big.Int).Rsh(rest, 64).Uint64()
	lo := new(big.Int).And(rest, new(big.Int).SetUint64(math.MaxUint64)).Uint64()
	return api.Wide{Hi: int(hi), Lo: uint(lo)}
}

// dropsOf is the samples that have a name among their cells.
func dropsOf(p api.Plan, streams [][]api.Op, id api.Id) []drop {
	var drops []drop
	for source, ops := range streams {
		for _, o := range ops {
			if o.Kind == isSample && slices.Contains(namesOf(p, o), id) {
				drops = append(drops, drop{source, o})
			}
		}
	}
	return drops
}

// goodPlan tells whether a plan is good, by chapter 19's words.
func goodPlan(p api.Plan) bool {
	in := func(n, most int) bool { return 1 <= n && n <= most }
	return in(p.Sources, 4) && slices.Contains([]int{1, 3, 5}, p.Keepers) &&
		in(len(p.Res), 3) && slices.Min(p.Res) >= 1 && in(p.Shards, 4) &&
		in(p.Hold, 64) && in(p.Cells, 1024) && in(p.Batch, 16) && in(p.Lease, 20)
}

// refused is the error of a plan and streams that no call works with.
func refused(p api.Plan, streams [][]api.Op) error {
	if !goodPlan(p) {
		return errPlan
	}
	if len(streams) != p.Sources {
		return errForm
	}
	for _, o := range slices.Concat(streams...) {
		if o.Kind != isSample && o.Kind != isMark {
			return errForm
		}
	}
	return nil
}

// The model's calls, of plans and streams that aren't refused, each by the chapter's words alone.

// idsBy is all names of cells.
func idsBy(p api.Plan, streams [][]api.Op) []api.Id {
	var ids []api.Id
	for _, o := range slices.Concat(streams...) {
		if o.Kind == isSample {
			ids = append(ids, namesOf(p, o)...)
		}
	}
	slices.SortFunc(ids, byName)
	return slices.Compact(ids)
}

// closedBy is what is closed in a lane.
func closedBy(p api.Plan, streams [][]api.Op, lane int) (api.Place, bool) {
	if lane < 0 || lane >= lanes(p) {
		return at(0, 0), false
	}
	var last []int
	for _, ops := range streams {
		var marks []int
		for _, o := range ops {
			if o.Kind == isMark {
				marks = append(marks, o.Time)
			}
		}
		if len(marks) == 0 {
			return at(0, 0), false
		}
		last = append(last, marks[len(marks)-1])
	}
	return upTo(div(slices.Min(last), p.Res[lane/p.Shards])), true
}

// readBy is what is read.
func readBy(p api.Plan, streams [][]api.Op, i, win, key int) (api.Cell, error) {
	if i < 0 || i >= len(p.Res) {
		return api.Cell{}, errRange
	}
	lane := i*p.Shards + shard(key, p.Shards)
	to, ok := closedBy(p, streams, lane)
	if !ok || !ahead(at(win, key), to) {
		return api.Cell{}, errNotYet
	}
	return cellOf(dropsOf(p, streams, named(lane, win, key))), nil
}

// inForm tells whether a batch is in form, by chapter 17's words.
func inForm(b api.Batch) bool {
	if b.Epoch < 1 || b.Lane < 0 || ahead(b.To, b.From) || len(b.Entries) > mostEntries {
		return false
	}
	for i, e := range b.Entries {
		if ahead(e.Place, b.From) || !ahead(e.Place, b.To) || e.Cell == (api.Cell{}) {
			return false
		}
		if i > 0 && !ahead(b.Entries[i-1].Place, e.Place) {
			return false
		}
	}
	return true
}

// between is a lane's cells from a place on and ahead of another one.
func between(p api.Plan, streams [][]api.Op, lane int, from, to api.Place) []api.Entry {
	var list []api.Entry
	for _, id := range idsBy(p, streams) {
		if id.Lane == lane && !ahead(id.Place, from) && ahead(id.Place, to) {
			list = append(list, api.Entry{Place: id.Place, Cell: cellOf(dropsOf(p, streams, id))})
		}
	}
	return list
}

// faults is all errors of the batch behind a log whose batches are right, in the chapter's order.
func faults(p api.Plan, streams [][]api.Op, log []api.Batch, b api.Batch) []error {
	var list []error
	if !inForm(b) || b.To == b.From || b.Lane >= lanes(p) {
		list = append(list, errForm)
	}
	from, epoch := start(), 1
	for _, other := range log {
		if other.Lane == b.Lane {
			from, epoch = other.To, other.Epoch
		}
	}
	if b.From != from || b.Epoch < epoch {
		list = append(list, errStale)
	}
	if to, ok := closedBy(p, streams, b.Lane); !ok || ahead(to, b.To) {
		list = append(list, errNotYet)
	}
	if !slices.Equal(b.Entries, between(p, streams, b.Lane, b.From, b.To)) {
		list = append(list, errRange)
	}
	return list
}

// checkBy is whether a log is right.
func checkBy(p api.Plan, streams [][]api.Op, log []api.Batch) error {
	for i, b := range log {
		if list := faults(p, streams, log[:i], b); len(list) > 0 {
			return list[0]
		}
	}
	return nil
}

// roundsBy is how many rounds are enough.
func roundsBy(p api.Plan, streams [][]api.Op) int {
	return 60 + 8*p.Lease + len(slices.Concat(streams...)) + 2*len(idsBy(p, streams))
}

// expectCell holds Cell against the model.
func expectCell(t *testing.T, p api.Plan, streams [][]api.Op, id api.Id) {
	t.Helper()
	var want api.Cell
	wantErr := refused(p, streams)
	if wantErr == nil {
		want = cellOf(dropsOf(p, streams, id))
	}
	if got, err := audit.Cell(p, streams, id); got != want || err != wantErr {
		t.Fatalf("Cell(%v, %v, %v): %v, %v, want %v, %v", p, streams, id, got, err, want, wantErr)
	}
}

// expectIds holds Ids against the model.
func expectIds(t *testing.T, p api.Plan, streams [][]api.Op) {
	t.Helper()
	var want []api.Id
	wantErr := refused(p, streams)
	if wantErr == nil {
		want = idsBy(p, streams)
	}
	if got, err := audit.Ids(p, streams); !slices.Equal(got, want) || err != wantErr {
		t.Fatalf("Ids(%v, %v): %v, %v, want %v, %v", p, streams, got, err, want, wantErr)
	}
}

// expectClosed holds Closed against the model.
func expectClosed(t *testing.T, p api.Plan, streams [][]api.Op, lane int) {
	t.Helper()
	var want api.Place
	wantOk := false
	if refused(p, streams) == nil {
		want, wantOk = closedBy(p, streams, lane)
	}
	if got, ok := audit.Closed(p, streams, lane); got != want || ok != wantOk {
		t.Fatalf("Closed(%v, %v, %d): %v, %v, want %v, %v", p, streams, lane, got, ok, want, wantOk)
	}
}

// expectRead holds Read against the model.
func expectRead(t *testing.T, p api.Plan, streams [][]api.Op, i, win, key int) {
	t.Helper()
	var want api.Cell
	wantErr := refused(p, streams)
	if wantErr == nil {
		want, wantErr = readBy(p, streams, i, win, key)
	}
	if got, err := audit.Read(p, streams, i, win, key); got != want || err != wantErr {
		t.Fatalf("Read(%v, %v, %d, %d, %d): %v, %v, want %v, %v", p, streams, i, win, key, got, err, want, wantErr)
	}
}

// expectCheck holds Check against the model, and is its answer.
func expectCheck(t *testing.T, p api.Plan, streams [][]api.Op, log []api.Batch) error {
	t.Helper()
	want := refused(p, streams)
	if want == nil {
		want = checkBy(p, streams, log)
	}
	if got := audit.Check(p, streams, log); got != want {
		t.Fatalf("Check(%v, %v, %v): %v, want %v", p, streams, short(log...), got, want)
	}
	return want
}

// expectRounds holds Rounds against the model.
func expectRounds(t *testing.T, p api.Plan, streams [][]api.Op) {
	t.Helper()
	want := 0
	if refused(p, streams) == nil {
		want = roundsBy(p, streams)
	}
	if got := audit.Rounds(p, streams); got != want {
		t.Fatalf("Rounds(%v, %v): %d, want %d", p, streams, got, want)
	}
}

// expectAll holds all that is told of streams against the model: of each cell, of its neighbours, and of some other places.
func expectAll(t *testing.T, p api.Plan, streams [][]api.Op) {
	t.Helper()
	expectIds(t, p, streams)
	expectRounds(t, p, streams)
	for _, lane := range []int{least, -1, 0, 1, 2, 3, 5, 11, 12, greatest} {
		expectClosed(t, p, streams, lane)
	}
	ids := []api.Id{named(0, 0, 0), named(0, least, least), named(0, greatest, greatest)}
	if refused(p, streams) == nil {
		ids = append(ids, idsBy(p, streams)...)
	}
	for _, id := range ids {
		for _, near := range []api.Id{id, named(id.Lane+1, id.Win, id.Key), named(id.Lane-1, id.Win, id.Key), named(id.Lane, id.Win+1, id.Key), named(id.Lane, id.Win, id.Key+1)} {
			expectCell(t, p, streams, near)
		}
		for i := -1; i <= len(p.Res); i++ {
			expectRead(t, p, streams, i, id.Win, id.Key)
			expectRead(t, p, streams, i, id.Win+1, id.Key)
		}
	}
}

// brief is what is told of a batch where a test fails.
type brief struct {
	epoch, lane int
	from, to    api.Place
	places      []api.Place
}

// short is batches without their cells, which are long.
func short(list ...api.Batch) []brief {
	var all []brief
	for _, b := range list {
		s := brief{b.Epoch, b.Lane, b.From, b.To, nil}
		for _, e := range b.Entries {
			s.places = append(s.places, e.Place)
		}
		all = append(all, s)
	}
	return all
}

// cloned is batches with entries of their own.
func cloned(list []api.Batch) []api.Batch {
	list = slices.Clone(list)
	for i := range list {
		list[i].Entries = slices.Clone(list[i].Entries)
	}
	return list
}

// batchOf is the batch between two places that has just the cells of streams there.
func batchOf(p api.Plan, streams [][]api.Op, epoch, lane int, from, to api.Place) api.Batch {
	return api.Batch{Epoch: epoch, Lane: lane, From: from, To: to, Entries: between(p, streams, lane, from, to)}
}

// chain is batches of a lane that join from the least place on, each up to the next place, all of one epoch.
func chain(p api.Plan, streams [][]api.Op, epoch, lane int, to ...api.Place) []api.Batch {
	var log []api.Batch
	from := start()
	for _, next := range to {
		log = append(log, batchOf(p, streams, epoch, lane, from, next))
		from = next
	}
	return log
}
