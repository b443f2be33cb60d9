package spring_test

import (
	"bytes"
	"math"
	"slices"
	"testing"

	"estuary/api"
	"estuary/diary"
	"estuary/frame"
	"estuary/note"
	"estuary/spring"
	"estuary/tape"
)

// As the document writes them.
const (
	least    = math.MinInt
	greatest = math.MaxInt
	enough   = 300 // with more rows than these a diary is rewritten

	isSample = 1
	isMark   = 2
	isNeed   = 6
	isReplay = 7

	errForm         = api.Errno(2)
	errDown         = api.Errno(5)
	errDisk         = api.Errno(6)
	errLate         = api.Errno(8)
	errRegress      = api.Errno(9)
	errBackpressure = api.Errno(10)
)

// Who asks, and who is asked.
const (
	asker = 6
	self  = 2
)

// scramble is a row of numbers without an order to be seen, the same one for each seed.
type scramble uint64

// next is a number from 0 to n - 1.
func (s *scramble) next(n int) int {
	*s = *s*6364136223846793005 + 1442695040888963407
	return int(uint64(*s)>>33) % n
}

// setup is what a spring is opened with beside its tape.
type setup struct {
	node         int
	res          []int
	shards, hold int
	chunk        int
}

// plain is a setup with one lane.
func plain() setup { return setup{self, []int{10}, 1, 3, 2} }

// wide is a setup with four lanes.
func wide() setup { return setup{self, []int{10, 60}, 2, 5, 3} }

// lanes is how many lanes a setup has.
func (a setup) lanes() int { return len(a.res) * a.shards }

// open is the spring of a tape.
func (a setup) open(x *tape.Tape) (*spring.Spring, error) {
	return spring.Open(a.node, a.res, a.shards, a.hold, a.chunk, x)
}

// good tells whether a spring may be opened with a setup, by the words of chapters 14 and 15.
func (a setup) good() bool {
	for _, r := range a.res {
		if r < 1 {
			return false
		}
	}
	in := func(n, from, to int) bool { return from <= n && n <= to }
	return in(len(a.res), 1, 3) && in(a.shards, 1, 4) && in(a.hold, 1, 64) && in(a.node, 0, 999) && in(a.chunk, 1, 16)
}

// sample is a sample of key 0 with a value that tells it from others.
func sample(seq, time int) api.Op { return sampleOf(seq, time, 0) }

// sampleOf is a sample of a key.
func sampleOf(seq, time, key int) api.Op {
	return api.Op{Seq: seq, Kind: isSample, Time: time, Key: key, Value: 1000 + seq}
}

// mark is a mark.
func mark(seq, time int) api.Op { return api.Op{Seq: seq, Kind: isMark, Time: time} }

// at is a place.
func at(win, key int) api.Place { return api.Place{Win: win, Key: key} }

// upTo is the place ahead of which all is that is ahead of a window.
func upTo(win int) api.Place { return at(win, least) }

// repeat is a place so many times.
func repeat(p api.Place, n int) []api.Place { return slices.Repeat([]api.Place{p}, n) }

// spelled is numbers as bytes, by chapter 4's words.
func spelled(nums ...int) []byte {
	var all []byte
	for _, n := range nums {
		turned := uint64(n) << 1
		if n < 0 {
			turned = ^turned
		}
		var one []byte
		for ; turned > 0; turned >>= 8 {
			one = append(one, byte(turned))
		}
		all = append(append(all, byte(len(one))), one...)
	}
	return all
}

// op is the row of an operation, by the chapter's words.
func op(o api.Op) []byte { return spelled(1, o.Seq, o.Kind, o.Time, o.Key, o.Value) }

// ops is the rows of operations.
func ops(list ...api.Op) [][]byte {
	var rows [][]byte
	for _, o := range list {
		rows = append(rows, op(o))
	}
	return rows
}

// unmarked is the row of a base without a mark.
func unmarked(next int, places ...api.Place) []byte {
	return spelled(append([]int{2, next, 0, 0, 0}, flat(places)...)...)
}

// marked is the row of a base with a mark.
func marked(next int, m api.Op, places ...api.Place) []byte {
	return spelled(append([]int{2, next, 1, m.Seq, m.Time}, flat(places)...)...)
}

// flat is the numbers of places.
func flat(places []api.Place) []int {
	var nums []int
	for _, p := range places {
		nums = append(nums, p.Win, p.Key)
	}
	return nums
}

// need is a note that asks for a number, with places.
func need(from int, places ...api.Place) api.Note {
	return api.Note{Kind: isNeed, From: asker, To: self, Nums: append([]int{from}, flat(places)...)}
}

// ahead tells whether a place is ahead of another one.
func ahead(a, b api.Place) bool {
	return a.Win < b.Win || a.Win == b.Win && a.Key < b.Key
}

// window is the window of a time.
func window(time, r int) int {
	if time%r < 0 {
		return time/r - 1
	}
	return time / r
}

// covers tells whether each cell of a sample is ahead of its lane's place.
func (a setup) covers(o api.Op, places []api.Place) bool {
	shard := (o.Key%a.shards + a.shards) % a.shards
	for i, r := range a.res {
		if !ahead(at(window(o.Time, r), o.Key), places[i*a.shards+shard]) {
			return false
		}
	}
	return true
}

// model is a spring by the chapter's words, on a diary of its own.
type model struct {
	setup
	diary *diary.Diary
	next  int
	last  []api.Op // none or one
	held  []api.Op
	cut   []api.Place
}

// openModel opens a model.
func openModel(a setup, x *tape.Tape) (*model, error) {
	if !a.good() {
		return nil, errForm
	}
	d, rows, err := diary.Open(x)
	if err != nil {
		return nil, err
	}
	m := &model{setup: a, diary: d, next: 1, cut: repeat(at(least, least), a.lanes())}
	var list [][]int
	for _, row := range rows {
		nums, err := frame.Nums(row, greatest)
		if err != nil || len(nums) == 0 {
			return nil, errForm
		}
		list = append(list, nums)
	}
	if len(list) > 0 && list[0][0] == 2 {
		var ok bool
		if list, ok = m.found(list); !ok {
			return nil, errForm
		}
	}
	for _, nums := range list {
		if len(nums) != 6 || nums[0] != 1 || !m.put(asOp(nums)) {
			return nil, errForm
		}
	}
	return m, nil
}

// asOp is the operation of a row's numbers.
func asOp(nums []int) api.Op {
	return api.Op{Seq: nums[1], Kind: nums[2], Time: nums[3], Key: nums[4], Value: nums[5]}
}

// found founds a model on a base and its samples; it is the rows behind them, and whether these are as told.
func (m *model) found(list [][]int) ([][]int, bool) {
	base := list[0]
	if len(base) != 5+2*m.lanes() || base[1] < 1 {
		return nil, false
	}
	m.next = base[1]
	switch {
	case base[2] == 1 && base[3] >= 1 && base[3] < m.next:
		m.last = []api.Op{mark(base[3], base[4])}
	case base[2] != 0 || base[3] != 0 || base[4] != 0:
		return nil, false
	}
	for i := range m.cut {
		m.cut[i] = at(base[5+2*i], base[6+2*i])
	}
	list = list[1:]
	for seq := 0; len(list) > 0 && len(list[0]) == 6 && list[0][0] == 1 && list[0][1] < m.next; list = list[1:] {
		o := asOp(list[0])
		if o.Kind != isSample || o.Seq <= seq {
			return nil, false
		}
		for _, p := range m.last {
			if o.Seq == p.Seq || o.Seq > p.Seq && o.Time < p.Time {
				return nil, false
			}
		}
		m.held = append(m.held, o)
		seq = o.Seq
	}
	return list, true
}

// past tells whether a time is below the last mark's.
func (m *model) past(time int) bool { return len(m.last) > 0 && time < m.last[0].Time }

// put puts an operation, and tells whether it may.
func (m *model) put(o api.Op) bool {
	switch {
	case o.Seq != m.next, m.past(o.Time):
		return false
	case o.Kind == isSample:
		m.held = append(m.held, o)
		slices.SortFunc(m.held, func(a, b api.Op) int { return slices.Compare([]int{a.Seq}, []int{b.Seq}) })
	case o.Kind == isMark && o.Key == 0 && o.Value == 0:
		m.last = []api.Op{o}
	default:
		return false
	}
	m.next++
	return true
}

// rows is the rows of the base and its samples.
func (m *model) rows() [][]byte {
	base := unmarked(m.next, m.cut...)
	for _, o := range m.last {
		base = marked(m.next, o, m.cut...)
	}
	return append([][]byte{base}, ops(m.held...)...)
}

// emit emits a sample.
func (m *model) emit(time, key, value int) (api.Op, error) {
	switch {
	case m == nil:
		return api.Op{}, errDown
	case m.past(time):
		return api.Op{}, errLate
	case len(m.held) >= m.hold:
		return api.Op{}, errBackpressure
	}
	return m.add(api.Op{Seq: m.next, Kind: isSample, Time: time, Key: key, Value: value})
}

// mark emits a mark.
func (m *model) mark(time int) (api.Op, error) {
	switch {
	case m == nil:
		return api.Op{}, errDown
	case m.past(time):
		return api.Op{}, errRegress
	}
	return m.add(mark(m.next, time))
}

// add adds an operation.
func (m *model) add(o api.Op) (api.Op, error) {
	if m.diary.Len() > enough {
		if err := m.diary.Rewrite(m.rows()...); err != nil {
			return api.Op{}, err
		}
	}
	if err := m.diary.Add(op(o)); err != nil {
		return api.Op{}, err
	}
	m.put(o)
	return o, nil
}

// handle handles a note.
func (m *model) handle(n api.Note) []api.Note {
	count := len(n.Nums) / 2
	if m == nil || n.Kind != isNeed || n.To != m.node || n.From < 0 || n.From > 999 {
		return nil
	}
	if len(n.Nums)%2 == 0 || count > 12 || len(n.Ops) > 0 || len(n.Entries) > 0 {
		return nil
	}
	if count == m.lanes() {
		m.drop(n.Nums[1:])
	}
	var list []api.Op
	for _, o := range slices.Concat(m.held, m.last) {
		if o.Seq >= n.Nums[0] {
			list = append(list, o)
		}
	}
	slices.SortFunc(list, func(a, b api.Op) int { return slices.Compare([]int{a.Seq}, []int{b.Seq}) })
	upTo := m.next - 1
	if len(list) > m.chunk {
		list = list[:m.chunk]
		upTo = list[m.chunk-1].Seq
	}
	nums := append([]int{n.Nums[0], upTo}, flat(m.cut)...)
	return []api.Note{{Kind: isReplay, From: m.node, To: n.From, Nums: nums, Ops: list}}
}

// drop cuts by the numbers of places, if that drops a sample and isn't refused.
func (m *model) drop(nums []int) {
	c := *m
	c.cut, c.held = slices.Clone(m.cut), nil
	for i := range c.cut {
		if p := at(nums[2*i], nums[2*i+1]); ahead(c.cut[i], p) {
			c.cut[i] = p
		}
	}
	for _, o := range m.held {
		if !m.covers(o, c.cut) {
			c.held = append(c.held, o)
		}
	}
	if len(c.held) < len(m.held) && m.diary.Rewrite(c.rows()...) == nil {
		m.cut, m.held = c.cut, c.held
	}
}

// pair is a spring and its model, each on a tape of its own, to which the same happens.
type pair struct {
	setup
	x, y *tape.Tape
	s    *spring.Spring
	m    *model
}

// each does something to both tapes.
func (p *pair) each(do func(x *tape.Tape)) {
	do(p.x)
	do(p.y)
}

// reopen opens both, and checks what is answered.
func (p *pair) reopen(t *testing.T) error {
	t.Helper()
	var err, want error
	p.s, err = p.open(p.x)
	p.m, want = openModel(p.setup, p.y)
	if err != want || (p.s == nil) != (err != nil) {
		t.Fatalf("Open of %v: %v, %v, want the error %v", p.setup, p.s, err, want)
	}
	p.expect(t)
	return err
}

// emit emits a sample of both, and checks what is answered.
func (p *pair) emit(t *testing.T, time, key, value int) (api.Op, error) {
	t.Helper()
	got, err := p.s.Emit(time, key, value)
	want, wantErr := p.m.emit(time, key, value)
	if got != want || err != wantErr {
		t.Fatalf("Emit(%d, %d, %d): %v, %v, want %v, %v", time, key, value, got, err, want, wantErr)
	}
	p.expect(t)
	return got, err
}

// mark emits a mark of both, and checks what is answered.
func (p *pair) mark(t *testing.T, time int) (api.Op, error) {
	t.Helper()
	got, err := p.s.Mark(time)
	want, wantErr := p.m.mark(time)
	if got != want || err != wantErr {
		t.Fatalf("Mark(%d): %v, %v, want %v, %v", time, got, err, want, wantErr)
	}
	p.expect(t)
	return got, err
}

// handle hands a note to both, and checks what is answered.
func (p *pair) handle(t *testing.T, n api.Note) []api.Note {
	t.Helper()
	got, want := p.s.Handle(n), p.m.handle(n)
	if !slices.EqualFunc(got, want, note.Same) {
		t.Fatalf("Handle(%v): %v, want %v", n, got, want)
	}
	for _, back := range got {
		if note.Check(back) != nil {
			t.Fatalf("Handle(%v): %v isn't in form", n, back)
		}
	}
	p.expect(t)
	return got
}

// expect checks all that a spring tells of itself, and its tape.
func (p *pair) expect(t *testing.T) {
	t.Helper()
	if p.m == nil {
		if p.s.Rows() != 0 || p.s.Stream() != nil {
			t.Fatalf("none has %d rows, and a stream %v", p.s.Rows(), p.s.Stream())
		}
	} else {
		p.expectStream(t)
	}
	if !bytes.Equal(p.x.Read(), p.y.Read()) || p.x.Sure() != p.y.Sure() || p.x.Steps() != p.y.Steps() || p.x.Down() != p.y.Down() {
		t.Fatalf("a tape of %d bytes, %d sure, %d steps, down %v; want %d, %d, %d, %v (or other bytes)",
			len(p.x.Read()), p.x.Sure(), p.x.Steps(), p.x.Down(), len(p.y.Read()), p.y.Sure(), p.y.Steps(), p.y.Down())
	}
}

// expectStream checks the rows, and the stream.
func (p *pair) expectStream(t *testing.T) {
	t.Helper()
	if p.s.Rows() != p.m.diary.Len() {
		t.Fatalf("%d rows, want %d", p.s.Rows(), p.m.diary.Len())
	}
	s := p.s.Stream()
	if s.Next() != p.m.next || !slices.Equal(s.Held(), p.m.held) || !slices.Equal(s.Places(), p.m.cut) {
		t.Fatalf("the stream has %d, %v, %v, want %d, %v, %v", s.Next(), s.Held(), s.Places(), p.m.next, p.m.held, p.m.cut)
	}
	var last api.Op
	for _, o := range p.m.last {
		last = o
	}
	if seq, time, ok := s.Last(); seq != last.Seq || time != last.Time || ok != (len(p.m.last) > 0) {
		t.Fatalf("the last mark is %d, %d, %v, want %v", seq, time, ok, p.m.last)
	}
}

// laid is a tape with rows, all sure.
func laid(t *testing.T, rows ...[]byte) *tape.Tape {
	t.Helper()
	x := tape.New()
	d, _, err := diary.Open(x)
	if err == nil {
		err = d.Rewrite(rows...)
	}
	if err != nil {
		t.Fatal(err)
	}
	return x
}

// on is a pair on tapes with rows, which isn't open.
func on(t *testing.T, a setup, rows ...[]byte) *pair {
	t.Helper()
	return &pair{setup: a, x: laid(t, rows...), y: laid(t, rows...)}
}

// both is a pair on tapes with rows, which is to open.
func both(t *testing.T, a setup, rows ...[]byte) *pair {
	t.Helper()
	p := on(t, a, rows...)
	if err := p.reopen(t); err != nil {
		t.Fatalf("Open of %v: %v", a, err)
	}
	return p
}

// many is n rows of operations from 1 on: three samples of rising times, and marks between and behind them, up to a time that is below 100.
func many(n int) [][]byte {
	var list []api.Op
	for i := range n {
		o := mark(i+1, min(i/5, 99))
		if i == 1 || i == 70 || i == 150 {
			o = sampleOf(i+1, i, i)
		}
		list = append(list, o)
	}
	return ops(list...)
}
