package outfall_test

import (
	"bytes"
	"math"
	"slices"
	"testing"

	"estuary/api"
	"estuary/cell"
	"estuary/diary"
	"estuary/frame"
	"estuary/note"
	"estuary/outfall"
	"estuary/tape"
)

// As the document writes them.
const (
	least       = math.MinInt
	greatest    = math.MaxInt
	mostEntries = 16
	mostLanes   = 12

	isSample = 1
	isMark   = 2
	isBatch  = 8
	isAck    = 9

	errRange  = api.Errno(1)
	errForm   = api.Errno(2)
	errDown   = api.Errno(5)
	errDisk   = api.Errno(6)
	errNotYet = api.Errno(12)
)

// Who sends batches, and the sink.
const (
	sender = 3
	self   = 5
)

// scramble is a row of numbers without an order to be seen, the same one for each seed.
type scramble uint64

// next is a number from 0 to n - 1.
func (s *scramble) next(n int) int {
	*s = *s*6364136223846793005 + 1442695040888963407
	return int(uint64(*s)>>33) % n
}

// at is a place.
func at(win, key int) api.Place { return api.Place{Win: win, Key: key} }

// upTo is the place ahead of which all is that is ahead of a window.
func upTo(win int) api.Place { return at(win, least) }

// start is the least place.
func start() api.Place { return upTo(least) }

// end is the greatest place.
func end() api.Place { return at(greatest, greatest) }

// ahead tells whether a place is ahead of another one.
func ahead(a, b api.Place) bool {
	return a.Win < b.Win || a.Win == b.Win && a.Key < b.Key
}

// some is a cell that isn't the unit, another one for each number.
func some(n int) api.Cell {
	return cell.Join(
		cell.One(n%4, api.Op{Seq: n + 1, Time: 10 * n, Value: n}),
		cell.One(1, api.Op{Seq: n + 2, Time: 10*n + 1, Value: -3 * n}),
	)
}

// entry is a cell at a place, another one for each place.
func entry(p api.Place) api.Entry { return api.Entry{Place: p, Cell: some(7*p.Win + p.Key)} }

// entries is cells at places.
func entries(places ...api.Place) []api.Entry {
	var list []api.Entry
	for _, p := range places {
		list = append(list, entry(p))
	}
	return list
}

// counted is so many entries in window 0, by the keys from 0 on.
func counted(n int) []api.Entry {
	var list []api.Entry
	for key := range n {
		list = append(list, entry(at(0, key)))
	}
	return list
}

// batch is a batch with cells at places.
func batch(epoch, lane int, from, to api.Place, places ...api.Place) api.Batch {
	return api.Batch{Epoch: epoch, Lane: lane, From: from, To: to, Entries: entries(places...)}
}

// sent is the note that brings a batch to the sink.
func sent(b api.Batch) api.Note {
	return api.Note{
		Kind:    isBatch,
		From:    sender,
		To:      self,
		Nums:    []int{b.Epoch, b.Lane, b.From.Win, b.From.Key, b.To.Win, b.To.Key},
		Entries: slices.Clone(b.Entries),
	}
}

// acked is the sink's answer.
func acked(lane, epoch int, frontier api.Place) api.Note {
	return api.Note{Kind: isAck, From: self, To: sender, Nums: []int{lane, epoch, frontier.Win, frontier.Key}}
}

// equal tells whether two batches are equal.
func equal(a, b api.Batch) bool {
	return a.Epoch == b.Epoch && a.Lane == b.Lane && a.From == b.From && a.To == b.To && slices.Equal(a.Entries, b.Entries)
}

// cloned is batches with entries of their own.
func cloned(list []api.Batch) []api.Batch {
	list = slices.Clone(list)
	for i := range list {
		list[i].Entries = slices.Clone(list[i].Entries)
	}
	return list
}

// brief is what is told of a batch where a test fails.
type brief struct {
	epoch, lane int
	from, to    api.Place
	places      []api.Place
}

// short is batches without their cells, which are long.
func short(list ...api.Batch) []brief {
	var all []brief
	for _, b := range list {
		s := brief{b.Epoch, b.Lane, b.From, b.To, nil}
		for _, e := range b.Entries {
			s.places = append(s.places, e.Place)
		}
		all = append(all, s)
	}
	return all
}

// spelled is numbers as bytes, by chapter 4's words.
func spelled(nums ...int) []byte {
	var all []byte
	for _, n := range nums {
		turned := uint64(n) << 1
		if n < 0 {
			turned = ^turned
		}
		var one []byte
		for ; turned > 0; turned >>= 8 {
			one = append(one, byte(turned))
		}
		all = append(append(all, byte(len(one))), one...)
	}
	return all
}

// cellNums is a cell's numbers, by chapter 2's words.
func cellNums(c api.Cell) []int {
	var hist []int
	for place, n := range c.Hist {
		if n != 0 {
			hist = append(hist, place, n)
		}
	}
	nums := []int{c.Count, c.Sum.Hi, int(c.Sum.Lo), c.Min, c.Max, c.Last.Time, c.Last.Source, c.Last.Seq, c.Last.Value, len(hist) / 2}
	return append(nums, hist...)
}

// noteNums is a note's numbers, in form or not, by chapter 5's words.
func noteNums(n api.Note) []int {
	nums := append([]int{n.Kind, n.From, n.To, len(n.Nums)}, n.Nums...)
	nums = append(nums, len(n.Ops))
	for _, o := range n.Ops {
		nums = append(nums, o.Seq, o.Kind, o.Time, o.Key, o.Value)
	}
	nums = append(nums, len(n.Entries))
	for _, e := range n.Entries {
		nums = append(append(nums, e.Win, e.Key), cellNums(e.Cell)...)
	}
	return nums
}

// row is a batch's row, by the chapter's words.
func row(b api.Batch) []byte {
	n := sent(b)
	n.From, n.To = 0, 0
	return spelled(noteNums(n)...)
}

// rows is the rows of batches.
func rows(list ...api.Batch) [][]byte {
	var all [][]byte
	for _, b := range list {
		all = append(all, row(b))
	}
	return all
}

// inForm tells whether a batch is in form, by chapter 17's words.
func inForm(b api.Batch) bool {
	if b.Epoch < 1 || b.Lane < 0 || ahead(b.To, b.From) || len(b.Entries) > mostEntries {
		return false
	}
	for i, e := range b.Entries {
		if ahead(e.Place, b.From) || !ahead(e.Place, b.To) || e.Cell == (api.Cell{}) {
			return false
		}
		if i > 0 && !ahead(b.Entries[i-1].Place, e.Place) {
			return false
		}
	}
	return true
}

// asEntry is the entry that numbers begin with, and those behind it.
func asEntry(nums []int) (api.Entry, []int, bool) {
	if len(nums) < 12 || nums[11] < 0 || nums[11] > (len(nums)-12)/2 {
		return api.Entry{}, nil, false
	}
	e := api.Entry{Place: at(nums[0], nums[1]), Cell: api.Cell{
		Count: nums[2],
		Sum:   api.Wide{Hi: nums[3], Lo: uint(nums[4])},
		Min:   nums[5],
		Max:   nums[6],
		Last:  api.Last{Time: nums[7], Source: nums[8], Seq: nums[9], Value: nums[10]},
	}}
	pairs, rest := nums[12:12+2*nums[11]], nums[12+2*nums[11]:]
	for i := 0; i < len(pairs); i += 2 {
		if pairs[i] < 0 || pairs[i] > 64 {
			return api.Entry{}, nil, false
		}
		e.Cell.Hist[pairs[i]] = pairs[i+1]
	}
	return e, rest, true
}

// asBatch is the batch in form whose row bytes are, and whether there is one.
func asBatch(b []byte) (api.Batch, bool) {
	nums, err := frame.Nums(b, greatest)
	if err != nil || len(nums) < 12 {
		return api.Batch{}, false
	}
	x := api.Batch{Epoch: nums[4], Lane: nums[5], From: at(nums[6], nums[7]), To: at(nums[8], nums[9])}
	for rest := nums[12:]; len(rest) > 0; {
		e, behind, ok := asEntry(rest)
		if !ok {
			return api.Batch{}, false
		}
		x.Entries, rest = append(x.Entries, e), behind
	}
	// All other numbers are told by the batch's own row.
	return x, inForm(x) && bytes.Equal(row(x), b)
}

// model is a sink by the chapter's words, on a diary of its own: it holds the accepted batches, and works all else out of them each time.
type model struct {
	node, lanes int
	diary       *diary.Diary
	log         []api.Batch
}

// openModel opens a model.
func openModel(node, lanes int, x *tape.Tape) (*model, error) {
	if node < 0 || node > 999 || lanes < 1 || lanes > mostLanes {
		return nil, errForm
	}
	d, list, err := diary.Open(x)
	if err != nil {
		return nil, err
	}
	m := &model{node: node, lanes: lanes, diary: d}
	for _, one := range list {
		b, ok := asBatch(one)
		if !ok || !m.has(b.Lane) || !m.joins(b) {
			return nil, errForm
		}
		m.log = append(m.log, b)
	}
	return m, nil
}

// has tells whether there is such a lane.
func (m *model) has(lane int) bool { return m != nil && 0 <= lane && lane < m.lanes }

// frontier is a lane's frontier.
func (m *model) frontier(lane int) api.Place {
	if !m.has(lane) {
		return at(0, 0)
	}
	for _, b := range slices.Backward(m.log) {
		if b.Lane == lane {
			return b.To
		}
	}
	return start()
}

// epoch is a lane's epoch.
func (m *model) epoch(lane int) int {
	top := 0
	if m.has(lane) {
		for _, b := range m.log {
			if b.Lane == lane {
				top = max(top, b.Epoch)
			}
		}
	}
	return top
}

// joins tells whether a batch would be accepted.
func (m *model) joins(b api.Batch) bool {
	return ahead(b.From, b.To) && b.Epoch >= m.epoch(b.Lane) && b.From == m.frontier(b.Lane)
}

// handle handles a note.
func (m *model) handle(n api.Note) []api.Note {
	if m == nil || n.Kind != isBatch || n.To != m.node || n.From < 0 || n.From > 999 || len(n.Nums) != 6 || len(n.Ops) > 0 {
		return nil
	}
	b := api.Batch{Epoch: n.Nums[0], Lane: n.Nums[1], From: at(n.Nums[2], n.Nums[3]), To: at(n.Nums[4], n.Nums[5]), Entries: slices.Clone(n.Entries)}
	if !inForm(b) || !m.has(b.Lane) {
		return nil
	}
	if m.joins(b) {
		if m.diary.Add(row(b)) != nil {
			return nil
		}
		m.log = append(m.log, b)
	}
	back := acked(b.Lane, m.epoch(b.Lane), m.frontier(b.Lane))
	back.From, back.To = m.node, n.From
	return []api.Note{back}
}

// read reads a place.
func (m *model) read(lane int, p api.Place) (api.Cell, error) {
	if !m.has(lane) {
		return api.Cell{}, errRange
	}
	if !ahead(p, m.frontier(lane)) {
		return api.Cell{}, errNotYet
	}
	for _, b := range m.log {
		for _, e := range b.Entries {
			if b.Lane == lane && e.Place == p {
				return e.Cell, nil
			}
		}
	}
	return api.Cell{}, nil
}

// pair is a sink and its model, each on a tape of its own, to which the same happens.
type pair struct {
	node, lanes int
	x, y        *tape.Tape
	o           *outfall.Outfall
	m           *model
}

// each does something to both tapes.
func (p *pair) each(do func(x *tape.Tape)) {
	do(p.x)
	do(p.y)
}

// reopen opens both, and checks what is answered.
func (p *pair) reopen(t *testing.T) error {
	t.Helper()
	var err, want error
	p.o, err = outfall.Open(p.node, p.lanes, p.x)
	p.m, want = openModel(p.node, p.lanes, p.y)
	if err != want || (p.o == nil) != (err != nil) {
		t.Fatalf("Open(%d, %d): %v, %v, want the error %v", p.node, p.lanes, p.o, err, want)
	}
	p.expect(t)
	return err
}

// handle hands a note to both, and checks what is answered.
func (p *pair) handle(t *testing.T, n api.Note) []api.Note {
	t.Helper()
	got, want := p.o.Handle(n), p.m.handle(n)
	if !slices.EqualFunc(got, want, note.Same) {
		t.Fatalf("Handle(%v): %v, want %v", n, got, want)
	}
	for _, back := range got {
		if note.Check(back) != nil {
			t.Fatalf("Handle(%v): %v isn't in form", n, back)
		}
	}
	p.expect(t)
	return got
}

// send hands a batch to both, and checks that the answer tells this epoch and frontier.
func (p *pair) send(t *testing.T, b api.Batch, epoch int, frontier api.Place) {
	t.Helper()
	got, want := p.handle(t, sent(b)), acked(b.Lane, epoch, frontier)
	if len(got) != 1 || !note.Same(got[0], want) {
		t.Fatalf("%v: %v, want %v", short(b), got, want)
	}
}

// expect checks all that a sink tells of itself, and its tape.
func (p *pair) expect(t *testing.T) {
	t.Helper()
	var log []api.Batch
	if p.m != nil {
		log = p.m.log
	}
	if got := p.o.Log(); !slices.EqualFunc(got, log, equal) {
		t.Fatalf("the log is %v, want %v", short(got...), short(log...))
	}
	// A sink that isn't opened has no lane, however many were asked for.
	for lane := -1; lane <= min(p.lanes, mostLanes+1); lane++ {
		if got, want := p.o.Frontier(lane), p.m.frontier(lane); got != want {
			t.Fatalf("Frontier(%d): %v, want %v", lane, got, want)
		}
		if got, want := p.o.Epoch(lane), p.m.epoch(lane); got != want {
			t.Fatalf("Epoch(%d): %d, want %d", lane, got, want)
		}
		if len(log) > 0 {
			p.expectReads(t, lane, log[len(log)-1])
		}
	}
	if !bytes.Equal(p.x.Read(), p.y.Read()) || p.x.Sure() != p.y.Sure() || p.x.Steps() != p.y.Steps() || p.x.Down() != p.y.Down() {
		t.Fatalf("a tape of %d bytes, %d sure, %d steps, down %v; want %d, %d, %d, %v (or other bytes)",
			len(p.x.Read()), p.x.Sure(), p.x.Steps(), p.x.Down(), len(p.y.Read()), p.y.Sure(), p.y.Steps(), p.y.Down())
	}
}

// expectReads checks what is read in a lane at the places of a batch, of this lane or another one.
func (p *pair) expectReads(t *testing.T, lane int, b api.Batch) {
	t.Helper()
	p.expectRead(t, lane, b.From)
	p.expectRead(t, lane, b.To)
	for _, e := range b.Entries {
		p.expectRead(t, lane, e.Place)
	}
}

// expectRead checks what is read at a place.
func (p *pair) expectRead(t *testing.T, lane int, at api.Place) {
	t.Helper()
	got, err := p.o.Read(lane, at)
	want, wantErr := p.m.read(lane, at)
	if got != want || err != wantErr {
		t.Fatalf("Read(%d, %v): %v, %v, want %v, %v", lane, at, got, err, want, wantErr)
	}
}

// laid is a tape with rows, all sure.
func laid(t *testing.T, list ...[]byte) *tape.Tape {
	t.Helper()
	x := tape.New()
	d, _, err := diary.Open(x)
	if err == nil {
		err = d.Rewrite(list...)
	}
	if err != nil {
		t.Fatal(err)
	}
	return x
}

// on is a pair on tapes with rows, which isn't open.
func on(t *testing.T, lanes int, list ...[]byte) *pair {
	t.Helper()
	return &pair{node: self, lanes: lanes, x: laid(t, list...), y: laid(t, list...)}
}

// both is a pair on tapes with rows, which is to open.
func both(t *testing.T, lanes int, list ...[]byte) *pair {
	t.Helper()
	p := on(t, lanes, list...)
	if err := p.reopen(t); err != nil {
		t.Fatalf("Open: %v", err)
	}
	return p
}

// chain is so many batches of a lane that join from the least place on, each up to the next window, with an entry in each that has a lesser one.
func chain(lane, n int) []api.Batch {
	var list []api.Batch
	from := start()
	for i := range n {
		list = append(list, batch(1+i/2, lane, from, upTo(i), at(i-1, lane)))
		from = upTo(i)
	}
	return list
}

// scribble writes over a list, its spare room included.
func scribble[T any](list []T, odd T) {
	whole := list[:cap(list)]
	for i := range whole {
		whole[i] = odd
	}
}

// roomy is a list between other things, which stand in its spare room too, and all of them.
func roomy[T any](list []T, odd T) (part, whole []T) {
	whole = slices.Concat([]T{odd}, list, []T{odd, odd, odd})
	return whole[1 : 1+len(list)], whole
}
