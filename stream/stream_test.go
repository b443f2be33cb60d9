package stream_test

import (
	"fmt"
	"maps"
	"math"
	"slices"
	"testing"

	"estuary/api"
	"estuary/stream"
)

const (
	least    = math.MinInt
	greatest = math.MaxInt
)

// The document's numbers.
const (
	isSample = 1
	isMark   = 2

	errForm         = api.Errno(2)
	errLate         = api.Errno(8)
	errRegress      = api.Errno(9)
	errBackpressure = api.Errno(10)
)

// scramble is a row of numbers without an order to be seen, the same one for each seed.
type scramble uint64

// next is a number from 0 to n - 1.
func (s *scramble) next(n int) int {
	*s = *s*6364136223846793005 + 1442695040888963407
	return int(uint64(*s)>>33) % n
}

// sample is a sample of key 0 with a value that tells it from others.
func sample(seq, time int) api.Op { return sampleOf(seq, time, 0) }

// sampleOf is a sample of a key.
func sampleOf(seq, time, key int) api.Op {
	return api.Op{Seq: seq, Kind: isSample, Time: time, Key: key, Value: 1000 + seq}
}

// mark is a mark.
func mark(seq, time int) api.Op { return api.Op{Seq: seq, Kind: isMark, Time: time} }

// none is no mark.
func none() api.Op { return api.Op{} }

// at is a place.
func at(win, key int) api.Place { return api.Place{Win: win, Key: key} }

// upTo is the place ahead of which all is that is ahead of a window.
func upTo(win int) api.Place { return at(win, least) }

// repeat is a place so many times.
func repeat(p api.Place, n int) []api.Place { return slices.Repeat([]api.Place{p}, n) }

// seqs is the numbers of operations.
func seqs(ops []api.Op) []int {
	var list []int
	for _, o := range ops {
		list = append(list, o.Seq)
	}
	return list
}

// model is a stream by the chapter's words.
type model struct {
	res          []int
	shards, hold int
	next         int
	marks        []api.Op // all of them; the last one is the last mark
	held         map[int]api.Op
	cut          []api.Place
}

// lanes is how many lanes the model has.
func (m *model) lanes() int { return len(m.res) * m.shards }

// below tells whether a time is below the last mark's.
func (m *model) below(time int) bool {
	n := len(m.marks)
	return n > 0 && time < m.marks[n-1].Time
}

// order is numbers of a map in order.
func order(ops map[int]api.Op) []api.Op {
	var list []api.Op
	for _, seq := range slices.Sorted(maps.Keys(ops)) {
		list = append(list, ops[seq])
	}
	return list
}

// ahead tells whether a place is ahead of another one.
func ahead(a, b api.Place) bool {
	return a.Win < b.Win || a.Win == b.Win && a.Key < b.Key
}

// window is the window of a time.
func window(time, r int) int {
	if time%r < 0 {
		return time/r - 1
	}
	return time / r
}

// covered tells whether each of a sample's cells is ahead of its lane's place.
func (m *model) covered(o api.Op) bool {
	shard := (o.Key%m.shards + m.shards) % m.shards
	for i, r := range m.res {
		if !ahead(at(window(o.Time, r), o.Key), m.cut[i*m.shards+shard]) {
			return false
		}
	}
	return true
}

// put is what the model answers to an operation, which it takes.
func (m *model) put(o api.Op) error {
	switch {
	case o.Seq != m.next, o.Kind != isSample && o.Kind != isMark:
		return errForm
	case o.Kind == isSample && m.below(o.Time):
		return errLate
	case o.Kind == isMark && m.below(o.Time):
		return errRegress
	case o.Kind == isMark && (o.Key != 0 || o.Value != 0):
		return errForm
	}
	if o.Kind == isSample {
		m.held[o.Seq] = o
	} else {
		m.marks = append(m.marks, o)
	}
	m.next++
	return nil
}

// drop cuts the model, and is the numbers that were dropped.
func (m *model) drop(places []api.Place) ([]int, error) {
	if len(places) != m.lanes() {
		return nil, errForm
	}
	for i, p := range places {
		if ahead(m.cut[i], p) {
			m.cut[i] = p
		}
	}
	var gone []int
	for _, o := range order(m.held) {
		if m.covered(o) {
			delete(m.held, o.Seq)
			gone = append(gone, o.Seq)
		}
	}
	return gone, nil
}

// all is what the model holds and its last mark, in order.
func (m *model) all() []api.Op {
	ops := maps.Clone(m.held)
	if n := len(m.marks); n > 0 {
		ops[m.marks[n-1].Seq] = m.marks[n-1]
	}
	return order(ops)
}

// replay is the model's replay.
func (m *model) replay(from, most int) ([]api.Op, int) {
	var list []api.Op
	whole := true
	for _, o := range m.all() {
		if o.Seq < from {
			continue
		}
		if len(list) < most {
			list = append(list, o)
		} else {
			whole = false
		}
	}
	switch {
	case whole:
		return list, m.next - 1
	case len(list) > 0:
		return list, list[len(list)-1].Seq
	}
	return nil, min(from-1, m.next-1)
}

// clone is another model that holds the same.
func (m *model) clone() *model {
	c := *m
	c.marks, c.held, c.cut = slices.Clone(m.marks), maps.Clone(m.held), slices.Clone(m.cut)
	return &c
}

// restored is a model of the same shape that holds these.
func (m *model) restored(next int, last api.Op, samples []api.Op, places []api.Place) *model {
	r := &model{res: m.res, shards: m.shards, hold: m.hold, next: next, held: map[int]api.Op{}, cut: slices.Clone(places)}
	if last != none() {
		r.marks = []api.Op{last}
	}
	for _, o := range samples {
		r.held[o.Seq] = o
	}
	return r
}

// pair is a stream and its model, which are told the same.
type pair struct {
	s *stream.Stream
	m *model
}

// made is a new stream, which is to be made.
func made(t *testing.T, res []int, shards, hold int) *stream.Stream {
	t.Helper()
	s, err := stream.New(res, shards, hold)
	if err != nil || s == nil {
		t.Fatalf("New(%v, %d, %d): %v", res, shards, hold, err)
	}
	return s
}

// both is a new stream and its model.
func both(t *testing.T, res []int, shards, hold int) pair {
	t.Helper()
	m := &model{res: slices.Clone(res), shards: shards, hold: hold, next: 1, held: map[int]api.Op{}}
	m.cut = repeat(at(least, least), m.lanes())
	p := pair{made(t, res, shards, hold), m}
	p.check(t)
	return p
}

// put puts operations.
func (p pair) put(t *testing.T, ops ...api.Op) {
	t.Helper()
	for _, o := range ops {
		want := p.m.put(o)
		if got := p.s.Put(o); got != want {
			t.Fatalf("Put(%v): %v, want %v", o, got, want)
		}
		p.check(t)
	}
}

// cut cuts by places.
func (p pair) cut(t *testing.T, places ...api.Place) {
	t.Helper()
	gone, wantErr := p.m.drop(places)
	if n, err := p.s.Cut(places); n != len(gone) || err != wantErr {
		t.Fatalf("Cut(%v): %d, %v, want %d, %v", places, n, err, len(gone), wantErr)
	}
	p.check(t)
}

// restore is the pair that is restored of what is to be in form.
func (p pair) restore(t *testing.T, next int, last api.Op, samples []api.Op, places []api.Place) pair {
	t.Helper()
	s, err := p.s.Restore(next, last, samples, places)
	if err != nil || s == nil {
		t.Fatalf("Restore(%d, %v, %v, %v): %v", next, last, samples, places, err)
	}
	p.check(t)
	r := pair{s, p.m.restored(next, last, samples, places)}
	r.check(t)
	return r
}

// clone is another pair that holds the same.
func (p pair) clone(t *testing.T) pair {
	t.Helper()
	c := pair{p.s.Clone(), p.m.clone()}
	c.check(t)
	return c
}

// check checks what a stream tells, twice, so that none of its calls changes what another one answers.
func (p pair) check(t *testing.T) {
	t.Helper()
	for range 2 {
		p.checkTold(t)
		p.checkNext(t)
		p.checkReplays(t)
	}
}

// checkTold checks what a stream tells of what it holds.
func (p pair) checkTold(t *testing.T) {
	t.Helper()
	if got := p.s.Next(); got != p.m.next {
		t.Fatalf("Next: %d, want %d", got, p.m.next)
	}
	var last api.Op
	if n := len(p.m.marks); n > 0 {
		last = p.m.marks[n-1]
	}
	if seq, time, ok := p.s.Last(); seq != last.Seq || time != last.Time || ok != (last != none()) {
		t.Fatalf("Last: %d, %d, %v, want %v", seq, time, ok, last)
	}
	if got := p.s.Held(); !slices.Equal(got, order(p.m.held)) {
		t.Fatalf("Held: %v, want %v", got, order(p.m.held))
	}
	if got := p.s.Places(); !slices.Equal(got, p.m.cut) {
		t.Fatalf("Places: %v, want %v", got, p.m.cut)
	}
}

// times is times at which an answer may turn.
func (p pair) times() []int {
	list := []int{least, -1, 0, 1, greatest}
	if n := len(p.m.marks); n > 0 {
		last := p.m.marks[n-1].Time
		list = append(list, last-1, last, last+1)
	}
	return list
}

// checkNext checks the operations that would be next.
func (p pair) checkNext(t *testing.T) {
	t.Helper()
	for i, time := range p.times() {
		key, value := 3-i, 5*i-9
		want, wantErr := api.Op{Seq: p.m.next, Kind: isSample, Time: time, Key: key, Value: value}, error(nil)
		if p.m.below(time) {
			want, wantErr = none(), errLate
		} else if len(p.m.held) >= p.m.hold {
			want, wantErr = none(), errBackpressure
		}
		if got, err := p.s.Sample(time, key, value); got != want || err != wantErr {
			t.Fatalf("Sample(%d, %d, %d): %v, %v, want %v, %v", time, key, value, got, err, want, wantErr)
		}
		want, wantErr = mark(p.m.next, time), nil
		if p.m.below(time) {
			want, wantErr = none(), errRegress
		}
		if got, err := p.s.Mark(time); got != want || err != wantErr {
			t.Fatalf("Mark(%d): %v, %v, want %v, %v", time, got, err, want, wantErr)
		}
	}
}

// checkReplays checks replays from around the numbers that there are.
func (p pair) checkReplays(t *testing.T) {
	t.Helper()
	n := len(p.m.held)
	froms := []int{least, least + 1, -1, 0, 1, 2, p.m.next - 1, p.m.next, p.m.next + 1, greatest}
	for i, o := range p.m.all() {
		// Of many, some are enough here.
		if n <= 12 || i%16 == 0 {
			froms = append(froms, o.Seq, o.Seq+1)
		}
	}
	for _, from := range froms {
		for _, most := range []int{least, -1, 0, 1, 2, n - 1, n, n + 1, greatest} {
			p.checkReplay(t, from, most)
		}
	}
}

// checkReplay checks one replay.
func (p pair) checkReplay(t *testing.T, from, most int) {
	t.Helper()
	ops, last := p.s.Replay(from, most)
	want, wantLast := p.m.replay(from, most)
	if !slices.Equal(ops, want) || last != wantLast {
		t.Fatalf("Replay(%d, %d): %v, %d, want %v, %d", from, most, ops, last, want, wantLast)
	}
	if cap(ops) != len(ops) {
		t.Fatalf("Replay(%d, %d): room for %d behind %d operations", from, most, cap(ops), len(ops))
	}
}

// P14.1: the chapter's example.
func TestExample(t *testing.T) {
	s := made(t, []int{10}, 1, 2)
	o, err := s.Sample(5, 1, 7)
	if want := (api.Op{Seq: 1, Kind: isSample, Time: 5, Key: 1, Value: 7}); o != want || err != nil {
		t.Fatal(o, err)
	}
	if err := s.Put(o); err != nil {
		t.Fatal(err)
	}
	if o, err = s.Mark(10); o != mark(2, 10) || err != nil {
		t.Fatal(o, err)
	}
	if err := s.Put(o); err != nil {
		t.Fatal(err)
	}
	if o, err := s.Sample(9, 1, 1); o != none() || err != errLate {
		t.Error(o, err)
	}
	if o, err := s.Mark(9); o != none() || err != errRegress {
		t.Error(o, err)
	}
	if n, err := s.Cut([]api.Place{upTo(1)}); n != 1 || err != nil {
		t.Error(n, err)
	}
	if ops, last := s.Replay(1, 9); !slices.Equal(ops, []api.Op{mark(2, 10)}) || last != 2 {
		t.Error(ops, last)
	}
}

// P14.1: the document's numbers are those of package api.
func TestNumbers(t *testing.T) {
	if api.OpSample != isSample || api.OpMark != isMark {
		t.Error("the kinds of operations")
	}
	if api.ErrForm != errForm || api.ErrLate != errLate || api.ErrRegress != errRegress || api.ErrBackpressure != errBackpressure {
		t.Error("the errors")
	}
}

// P14.1: New takes from 1 to 3 resolutions from 1 on, from 1 to 4 shards, a hold from 1 to 64, and nothing else.
func TestNew(t *testing.T) {
	lists := []struct {
		res  []int
		good bool
	}{
		{nil, false},
		{[]int{}, false},
		{[]int{1}, true},
		{[]int{0}, false},
		{[]int{-1}, false},
		{[]int{least}, false},
		{[]int{greatest}, true},
		{[]int{1, 1}, true},
		{[]int{60, 10}, true},
		{[]int{1, 10, 100}, true},
		{[]int{0, 10, 100}, false},
		{[]int{1, 0, 100}, false},
		{[]int{1, 10, 0}, false},
		{[]int{1, 10, -1}, false},
		{[]int{1, 10, 100, 1000}, false},
		{[]int{1, 10, 100, 0}, false},
		{slices.Repeat([]int{1}, 1000), false},
	}
	for _, l := range lists {
		for _, shards := range []int{least, -1, 0, 1, 2, 3, 4, 5, greatest} {
			for _, hold := range []int{least, -1, 0, 1, 2, 63, 64, 65, greatest} {
				good := l.good && shards >= 1 && shards <= 4 && hold >= 1 && hold <= 64
				expectNew(t, l.res, shards, hold, good)
			}
		}
	}
}

// expectNew checks whether a stream may be made, and what it holds.
func expectNew(t *testing.T, res []int, shards, hold int, good bool) {
	t.Helper()
	s, err := stream.New(res, shards, hold)
	if !good {
		if s != nil || err != errForm {
			t.Errorf("New(%v, %d, %d): %v, %v, want ErrForm", res, shards, hold, s, err)
		}
		return
	}
	if s == nil || err != nil {
		t.Fatalf("New(%v, %d, %d): %v, %v", res, shards, hold, s, err)
	}
	both(t, res, shards, hold)
	if got := s.Places(); !slices.Equal(got, repeat(at(least, least), len(res)*shards)) {
		t.Errorf("New(%v, %d, %d): its cut is %v", res, shards, hold, got)
	}
}

// P14.1, P14.2: times one below the last mark's, just it and above it, and without a mark.
func TestTimesByMark(t *testing.T) {
	for _, time := range []int{least, least + 1, -11, -10, -1, 0, 1, 9, 10, greatest - 1, greatest} {
		p := both(t, []int{10}, 1, 4)
		// Ahead of the first mark no time is too low.
		p.put(t, sample(1, least), sample(2, greatest), mark(3, time))
		for _, other := range []int{least, time - 1, time, time + 1, greatest} {
			c := p.clone(t)
			c.put(t, sample(4, other))
			c = p.clone(t)
			c.put(t, mark(4, other))
			// What was refused has used up no number, and the mark stays.
			c.put(t, mark(c.m.next, time), sample(c.m.next+1, time))
		}
	}
}

// P14.1: written times.
func TestWrittenTimes(t *testing.T) {
	p := both(t, []int{10}, 1, 9)
	expectNext(t, p.s, -5, nil, nil)
	p.put(t, mark(1, 0))
	expectNext(t, p.s, -1, errLate, errRegress)
	expectNext(t, p.s, least, errLate, errRegress)
	expectNext(t, p.s, 0, nil, nil)
	expectNext(t, p.s, 1, nil, nil)
	p.put(t, mark(2, 0), mark(3, 20))
	expectNext(t, p.s, 19, errLate, errRegress)
	expectNext(t, p.s, 20, nil, nil)
	p.put(t, mark(4, greatest))
	expectNext(t, p.s, greatest-1, errLate, errRegress)
	expectNext(t, p.s, greatest, nil, nil)

	p = both(t, []int{10}, 1, 9)
	p.put(t, mark(1, least))
	expectNext(t, p.s, least, nil, nil)
	expectNext(t, p.s, greatest, nil, nil)
}

// expectNext checks what a sample and a mark of a time answer.
func expectNext(t *testing.T, s *stream.Stream, time int, sampleErr, markErr error) {
	t.Helper()
	if _, err := s.Sample(time, 1, 2); err != sampleErr {
		t.Errorf("Sample(%d): %v, want %v", time, err, sampleErr)
	}
	if _, err := s.Mark(time); err != markErr {
		t.Errorf("Mark(%d): %v, want %v", time, err, markErr)
	}
}

// P14.1: a sample is refused, where as many are held as may be, and only there; late comes first; Put takes it still; marks aren't held.
func TestHold(t *testing.T) {
	for _, hold := range []int{1, 2, 3, 63, 64} {
		p := both(t, []int{10}, 1, hold)
		p.put(t, mark(1, 0))
		for i := range hold {
			if _, err := p.s.Sample(5, 0, 0); err != nil {
				t.Errorf("hold %d: with %d held: %v", hold, i, err)
			}
			p.put(t, sample(p.m.next, 5), mark(p.m.next+1, 0))
		}
		if o, err := p.s.Sample(0, 0, 0); o != none() || err != errBackpressure {
			t.Errorf("hold %d: with as many held: %v, %v", hold, o, err)
		}
		if o, err := p.s.Sample(-1, 0, 0); o != none() || err != errLate {
			t.Errorf("hold %d: late, with as many held: %v, %v", hold, o, err)
		}
		if _, err := p.s.Mark(0); err != nil {
			t.Errorf("hold %d: a mark, with as many held: %v", hold, err)
		}
		p.put(t, sample(p.m.next, 5), sample(p.m.next+1, 25))
		if got := len(p.s.Held()); got != hold+2 {
			t.Errorf("hold %d: %d are held, want %d", hold, got, hold+2)
		}
		p.cut(t, upTo(1))
		if _, err := p.s.Sample(0, 0, 0); (err == nil) != (hold > 1) {
			t.Errorf("hold %d: with one held: %v", hold, err)
		}
	}
}

// P14.1, P14.2: Put takes just the next number, and just samples and marks; a mark has neither key nor value.
func TestPutOfWrongOperations(t *testing.T) {
	p := both(t, []int{10}, 2, 3)
	p.put(t, sample(1, 5), mark(2, 10), sample(3, 10), mark(4, 20))
	for _, seq := range []int{least, -5, -1, 0, 1, 2, 3, 4, 6, 7, greatest} {
		for _, kind := range []int{least, -1, 0, isSample, isMark, 3, greatest} {
			expectPut(t, p, api.Op{Seq: seq, Kind: kind, Time: 30}, errForm)
			expectPut(t, p, api.Op{Seq: seq, Kind: kind, Time: 3, Key: 1}, errForm)
		}
	}
	for _, kind := range []int{least, -2, -1, 0, 3, 4, 5, greatest} {
		for _, time := range []int{19, 20, 21} {
			expectPut(t, p, api.Op{Seq: 5, Kind: kind, Time: time}, errForm)
		}
	}
	for _, n := range []int{least, -1, 1, 2, greatest} {
		expectPut(t, p, api.Op{Seq: 5, Kind: isMark, Time: 20, Key: n}, errForm)
		expectPut(t, p, api.Op{Seq: 5, Kind: isMark, Time: 20, Value: n}, errForm)
		expectPut(t, p, api.Op{Seq: 5, Kind: isMark, Time: 20, Key: n, Value: -n}, errForm)
		// The chapter names the mark that goes back ahead of the key and the value.
		expectPut(t, p, api.Op{Seq: 5, Kind: isMark, Time: 19, Key: n}, errRegress)
		expectPut(t, p, api.Op{Seq: 5, Kind: isMark, Time: 19, Value: n}, errRegress)
		expectPut(t, p, api.Op{Seq: 5, Kind: isSample, Time: 19, Key: n, Value: n}, errLate)
		expectPut(t, p, api.Op{Seq: 5, Kind: isSample, Time: 20, Key: n, Value: n}, nil)
	}
	expectPut(t, p, sample(5, least), errLate)
	expectPut(t, p, mark(5, least), errRegress)
	expectPut(t, p, mark(5, 19), errRegress)
	expectPut(t, p, mark(5, 20), nil)
	expectPut(t, p, mark(5, greatest), nil)
	// No mark, no time that is too low.
	expectPut(t, both(t, []int{1}, 1, 1), api.Op{Seq: 1, Kind: isMark, Time: least, Key: 1}, errForm)
	expectPut(t, both(t, []int{1}, 1, 1), mark(1, least), nil)
	expectPut(t, both(t, []int{1}, 1, 1), sample(1, least), nil)
}

// expectPut checks what an operation answers, on a clone.
func expectPut(t *testing.T, p pair, o api.Op, want error) {
	t.Helper()
	c := p.clone(t)
	if err := c.s.Put(o); err != want {
		t.Errorf("Put(%v): %v, want %v", o, err, want)
	}
	if err := c.m.put(o); err != want {
		t.Errorf("Put(%v) by the model: %v, want %v", o, err, want)
	}
	c.check(t)
}

// P14.1, P14.2: what Sample and Mark answer may be put, and what they refuse is refused by Put (but for the room).
func TestPutOfWhatIsNext(t *testing.T) {
	p := both(t, []int{10}, 1, 2)
	s := scramble(7)
	for range 200 {
		time := s.next(40) - 10
		if s.next(2) == 0 {
			if o, err := p.s.Mark(time); err == nil {
				p.put(t, o)
			} else {
				expectPut(t, p, mark(p.m.next, time), err)
			}
			continue
		}
		o, err := p.s.Sample(time, s.next(3), s.next(9))
		switch err {
		case nil:
			p.put(t, o)
		case errBackpressure:
			expectPut(t, p, sample(p.m.next, time), nil)
			p.cut(t, upTo(s.next(4)))
		default:
			expectPut(t, p, sample(p.m.next, time), err)
		}
	}
}

// P14.1: Restore of what is just in form.
func TestRestoreOfGood(t *testing.T) {
	p := both(t, []int{10, 60}, 2, 2)
	p.put(t, sample(1, 5), mark(2, 30), sample(3, 31))
	p.cut(t, upTo(2), upTo(2), upTo(0), upTo(0))
	four := []api.Place{at(1, 2), at(3, 4), at(5, 6), at(least, greatest)}
	for i, x := range []struct {
		next    int
		last    api.Op
		samples []api.Op
	}{
		{1, none(), nil},
		{1, none(), []api.Op{}},
		{2, none(), nil},
		{greatest, none(), nil},
		{2, mark(1, 0), nil},
		{2, none(), []api.Op{sample(1, least)}},
		{3, mark(1, 10), []api.Op{sample(2, 10)}},
		{3, mark(1, 10), []api.Op{sample(2, 11)}},
		{3, mark(1, greatest), []api.Op{sample(2, greatest)}},
		{3, mark(2, 10), []api.Op{sample(1, 9)}},
		{3, mark(2, greatest), []api.Op{sample(1, least)}},
		{9, none(), []api.Op{sample(1, 7), sample(2, -7), sample(8, least)}},
		{9, mark(5, 0), []api.Op{sample(1, 7), sample(4, -7), sample(6, 0), sample(8, 3)}},
		{9, mark(5, -3), []api.Op{sample(8, -3)}},
		{9, mark(8, 10), []api.Op{sample(7, -100)}},
		{9, mark(1, least), []api.Op{sample(2, least), sample(3, least)}},
		// More than it may hold.
		{9, mark(4, 10), []api.Op{sample(1, 0), sample(2, 0), sample(3, 0), sample(5, 10), sample(6, 10)}},
		{greatest, mark(greatest-1, 10), []api.Op{sample(greatest-2, 5)}},
		{greatest, mark(greatest-2, 10), []api.Op{sample(greatest-1, 10)}},
	} {
		t.Run(fmt.Sprint(i), func(t *testing.T) {
			r := p.restore(t, x.next, x.last, x.samples, four)
			r.cut(t, repeat(at(least, least), 4)...)
			r.put(t, sample(x.next, greatest))
			r.put(t, mark(r.m.next, greatest))
			p.check(t)
		})
	}
}

// P14.1: Restore of each thing that isn't in form, beside that which just is.
func TestRestoreOfWrong(t *testing.T) {
	p := both(t, []int{10, 60}, 2, 4)
	p.put(t, sample(1, 5), mark(2, 30), sample(3, 31))
	four := repeat(at(least, least), 4)
	few := []api.Op{sample(2, 3), sample(6, 40)}
	x := mark(4, 40)
	with := func(change func(o *api.Op)) api.Op {
		o := x
		change(&o)
		return o
	}
	odd := func(change func(o *api.Op)) []api.Op {
		o := sample(7, 50)
		change(&o)
		return append(slices.Clone(few), o)
	}
	p.restore(t, 9, x, few, four)
	p.restore(t, 9, x, odd(func(o *api.Op) {}), four)

	for i, w := range []struct {
		next    int
		last    api.Op
		samples []api.Op
		places  []api.Place
	}{
		// The next number.
		{0, none(), nil, four},
		{-1, none(), nil, four},
		{least, none(), nil, four},
		{least, mark(greatest, 3), nil, four},
		// The places.
		{9, x, few, nil},
		{9, x, few, four[:1]},
		{9, x, few, four[:2]},
		{9, x, few, four[:3]},
		{9, x, few, repeat(at(0, 0), 5)},
		{9, x, few, repeat(at(0, 0), 12)},
		{1, none(), nil, four[:3]},
		// The mark.
		{9, with(func(o *api.Op) { o.Seq = 0 }), nil, four},
		{9, with(func(o *api.Op) { o.Seq = -1 }), nil, four},
		{9, with(func(o *api.Op) { o.Seq = least }), nil, four},
		{9, with(func(o *api.Op) { o.Seq = 9 }), nil, four},
		{9, with(func(o *api.Op) { o.Seq = 10 }), nil, four},
		{9, with(func(o *api.Op) { o.Seq = greatest }), nil, four},
		{9, with(func(o *api.Op) { o.Key = 1 }), nil, four},
		{9, with(func(o *api.Op) { o.Key = -1 }), nil, four},
		{9, with(func(o *api.Op) { o.Value = 1 }), nil, four},
		{9, with(func(o *api.Op) { o.Value = least }), nil, four},
		{9, with(func(o *api.Op) { o.Kind = isSample }), nil, four},
		{9, with(func(o *api.Op) { o.Kind = 0 }), nil, four},
		{9, with(func(o *api.Op) { o.Kind = 3 }), nil, four},
		{9, with(func(o *api.Op) { o.Kind = -2 }), nil, four},
		{9, api.Op{Seq: 3}, nil, four},
		{9, api.Op{Kind: isMark}, nil, four},
		{9, api.Op{Time: 1}, nil, four},
		{9, api.Op{Key: 1}, nil, four},
		{9, api.Op{Value: 1}, nil, four},
		{1, mark(1, 0), nil, four},
		{1, mark(0, 0), nil, four},
		// The samples.
		{9, x, odd(func(o *api.Op) { o.Kind = isMark }), four},
		{9, x, odd(func(o *api.Op) { o.Kind = 0 }), four},
		{9, x, odd(func(o *api.Op) { o.Kind = 3 }), four},
		{9, x, odd(func(o *api.Op) { o.Seq = 6 }), four},
		{9, x, odd(func(o *api.Op) { o.Seq = 5 }), four},
		{9, x, odd(func(o *api.Op) { o.Seq = 1 }), four},
		{9, x, odd(func(o *api.Op) { o.Seq = 0 }), four},
		{9, x, odd(func(o *api.Op) { o.Seq = 9 }), four},
		{9, x, odd(func(o *api.Op) { o.Seq = 10 }), four},
		{9, x, odd(func(o *api.Op) { o.Seq = greatest }), four},
		{9, x, odd(func(o *api.Op) { *o = none() }), four},
		{9, x, odd(func(o *api.Op) { o.Time = 39 }), four},
		{9, x, odd(func(o *api.Op) { o.Time = least }), four},
		{9, x, []api.Op{sample(4, 50)}, four},
		{9, x, []api.Op{sample(3, 50), sample(4, 50), sample(5, 50)}, four},
		{9, x, []api.Op{sample(5, 39), sample(6, 40)}, four},
		{9, x, []api.Op{sample(0, 50)}, four},
		{9, x, []api.Op{sample(-1, 50), sample(2, 50)}, four},
		{9, x, []api.Op{sample(least, 50)}, four},
		{9, x, []api.Op{sample(3, 0), sample(2, 0)}, four},
		{9, none(), []api.Op{sample(0, 50)}, four},
		{9, none(), []api.Op{sample(9, 50)}, four},
		{9, none(), []api.Op{sample(3, 50), sample(3, 50)}, four},
		{1, none(), []api.Op{sample(1, 50)}, four},
		{1, none(), []api.Op{sample(0, 50)}, four},
		{9, mark(8, greatest), []api.Op{sample(8, greatest)}, four},
		{9, mark(7, greatest), []api.Op{sample(8, greatest-1)}, four},
		{9, mark(1, least+1), []api.Op{sample(2, least)}, four},
	} {
		if r, err := p.s.Restore(w.next, w.last, w.samples, w.places); r != nil || err != errForm {
			t.Errorf("%d: Restore(%d, %v, %v, %v): %v, %v, want ErrForm", i, w.next, w.last, w.samples, w.places, r, err)
		}
		p.check(t)
	}
}

// P14.1: all small things that Restore may be handed, by the chapter's words.
func TestRestoreOfAllSmall(t *testing.T) {
	p := both(t, []int{10}, 1, 2)
	one := []api.Place{upTo(3)}
	marks := []api.Op{none(), sample(1, 5), {Seq: 1, Kind: isMark, Time: 5, Key: 1}}
	for seq := range 5 {
		marks = append(marks, mark(seq, 5))
	}
	var samples [][]api.Op
	for _, a := range early(5) {
		samples = append(samples, []api.Op{a})
		for _, b := range early(5) {
			samples = append(samples, []api.Op{a, b})
		}
	}
	samples = append(samples, nil)
	good := 0
	for next := range 5 {
		for _, last := range marks {
			for _, list := range samples {
				r, err := p.s.Restore(next, last, list, one)
				if !fits(next, last, list) {
					if r != nil || err != errForm {
						t.Fatalf("Restore(%d, %v, %v): %v, want ErrForm", next, last, list, err)
					}
					continue
				}
				if r == nil || err != nil {
					t.Fatalf("Restore(%d, %v, %v): %v", next, last, list, err)
				}
				pair{r, p.m.restored(next, last, list, one)}.checkTold(t)
				good++
			}
		}
	}
	if good < 50 {
		t.Error("few are in form:", good)
	}
}

// early is samples of numbers below n, each at a time below 5, and at 5.
func early(n int) []api.Op {
	var list []api.Op
	for seq := range n {
		list = append(list, sample(seq, 4), sample(seq, 5))
	}
	return list
}

// fits tells whether a stream may hold these by the chapter's words.
func fits(next int, last api.Op, samples []api.Op) bool {
	if next < 1 {
		return false
	}
	if last != none() && (last.Kind != isMark || last.Seq < 1 || last.Seq > next-1 || last.Key != 0 || last.Value != 0) {
		return false
	}
	for i, o := range samples {
		if o.Kind != isSample || o.Seq < 1 || o.Seq > next-1 {
			return false
		}
		for _, other := range samples[:i] {
			if other.Seq >= o.Seq {
				return false
			}
		}
		if last != none() && (o.Seq == last.Seq || o.Seq > last.Seq && o.Time < last.Time) {
			return false
		}
	}
	return true
}

// P14.1, P14.3: samples that the cut covers are held behind Restore, and behind Put, till the next Cut, which counts them.
func TestCoveredAreHeld(t *testing.T) {
	p := both(t, []int{10}, 1, 9)
	r := p.restore(t, 4, mark(2, 5), []api.Op{sample(1, 5), sample(3, 5)}, []api.Place{upTo(1)})
	r.put(t, sample(4, 9), sample(5, 10))
	if got := seqs(r.s.Held()); !slices.Equal(got, []int{1, 3, 4, 5}) {
		t.Fatal(got)
	}
	if n, err := r.s.Cut([]api.Place{at(least, least)}); n != 3 || err != nil {
		t.Error(n, err)
	}
	if got := seqs(r.s.Held()); !slices.Equal(got, []int{5}) {
		t.Error(got)
	}
	if got := r.s.Places(); !slices.Equal(got, []api.Place{upTo(1)}) {
		t.Error(got)
	}
}

// P14.1: what is restored has the shape of the stream that was asked, its resolutions, shards and hold, and nothing else of it.
func TestRestoreKeepsShape(t *testing.T) {
	p := both(t, []int{10, 60}, 2, 3)
	p.put(t, mark(1, 100), sample(2, 100))
	p.cut(t, repeat(upTo(50), 4)...)
	r := p.restore(t, 1, none(), nil, repeat(at(least, least), 4))
	r.put(t, sampleOf(1, 59, 1), sampleOf(2, 60, 1), sampleOf(3, 59, 0))
	if _, err := r.s.Sample(0, 0, 0); err != errBackpressure {
		t.Error(err)
	}
	// Key 1 is of shard 1: lanes 1 and 3.
	r.cut(t, upTo(least), upTo(9), upTo(least), upTo(1))
	if got := seqs(r.s.Held()); !slices.Equal(got, []int{2, 3}) {
		t.Error(got)
	}
	again := r.restore(t, 2, none(), nil, repeat(upTo(7), 4))
	again.put(t, mark(2, 3))
}

// P14.1: each place of the cut rises by itself, and never goes back.
func TestCutByLanes(t *testing.T) {
	p := both(t, []int{10, 60}, 2, 9)
	p.cut(t, upTo(3), upTo(4), at(0, 7), at(0, -7))
	p.cut(t, upTo(2), upTo(5), at(0, 8), at(0, -8))
	want := []api.Place{upTo(3), upTo(5), at(0, 8), at(0, -7)}
	if got := p.s.Places(); !slices.Equal(got, want) {
		t.Error(got)
	}
	p.cut(t, at(2, greatest), at(5, least+1), at(-1, greatest), at(1, least))
	want = []api.Place{upTo(3), at(5, least+1), at(0, 8), upTo(1)}
	if got := p.s.Places(); !slices.Equal(got, want) {
		t.Error(got)
	}
	p.cut(t, repeat(at(least, least), 4)...)
	p.cut(t, repeat(at(greatest, greatest), 4)...)
	p.cut(t, repeat(at(greatest, greatest-1), 4)...)
}

// P14.1: Cut takes as many places as there are lanes, and nothing else; what is refused changes nothing.
func TestCutByLength(t *testing.T) {
	for res := 1; res <= 3; res++ {
		for shards := 1; shards <= 4; shards++ {
			p := both(t, []int{10, 20, 30}[:res], shards, 4)
			p.put(t, sample(1, 5), sampleOf(2, 5, 1), sampleOf(3, 35, 2), mark(4, 5))
			for n := range 15 {
				if n != res*shards {
					if dropped, err := p.s.Cut(repeat(upTo(9), n)); dropped != 0 || err != errForm {
						t.Errorf("Cut of %d places, at %d lanes: %d, %v", n, res*shards, dropped, err)
					}
					p.check(t)
				}
			}
			p.cut(t, repeat(upTo(1), res*shards)...)
			p.cut(t, repeat(upTo(9), res*shards)...)
		}
	}
}

// P14.3: just those samples are dropped whose cells are all ahead of the cut, at each place around them.
func TestCutDropsWhatIsCovered(t *testing.T) {
	p := both(t, []int{10, 60}, 1, 9)
	p.put(t, sampleOf(1, 59, 3), sampleOf(2, 60, 3), sampleOf(3, 59, 4), mark(4, 50), sampleOf(5, 119, 3), sampleOf(6, 120, 3))
	for _, x := range []struct {
		tens, sixties api.Place
		gone          []int
	}{
		{at(5, 3), at(0, 3), nil},
		{at(5, 4), at(0, 3), nil},
		{at(5, 3), at(0, 4), nil},
		{at(5, 4), at(0, 4), []int{1}},
		{at(5, 5), at(0, 4), []int{1}},
		{at(5, 4), at(0, 5), []int{1}},
		{at(5, 5), at(0, 5), []int{1, 3}},
		{upTo(6), upTo(1), []int{1, 3}},
		{upTo(99), upTo(1), []int{1, 3}},
		{upTo(6), upTo(99), []int{1, 3}},
		{at(6, 3), at(1, 4), []int{1, 3}},
		{at(6, 4), at(1, 4), []int{1, 2, 3}},
		{at(11, 4), at(1, 4), []int{1, 2, 3, 5}},
		{at(12, 4), at(2, 3), []int{1, 2, 3, 5}},
		{at(12, 3), at(2, 4), []int{1, 2, 3, 5}},
		{at(12, 4), at(2, 4), []int{1, 2, 3, 5, 6}},
		{at(greatest, greatest), at(greatest, greatest), []int{1, 2, 3, 5, 6}},
		{at(least, least), at(greatest, greatest), nil},
		{at(greatest, greatest), at(least, least), nil},
	} {
		c := p.clone(t)
		if n, err := c.s.Cut([]api.Place{x.tens, x.sixties}); n != len(x.gone) || err != nil {
			t.Errorf("Cut(%v, %v): %d, %v, want %d", x.tens, x.sixties, n, err, len(x.gone))
		}
		var want []api.Op
		for _, o := range p.s.Held() {
			if !slices.Contains(x.gone, o.Seq) {
				want = append(want, o)
			}
		}
		if got := c.s.Held(); !slices.Equal(got, want) {
			t.Errorf("Cut(%v, %v): %v are held, want %v", x.tens, x.sixties, got, want)
		}
		// The mark stays, whatever is cut.
		if seq, time, ok := c.s.Last(); seq != 4 || time != 50 || !ok || c.s.Next() != 7 {
			t.Errorf("Cut(%v, %v): the mark %d, %d, %v", x.tens, x.sixties, seq, time, ok)
		}
		if n, err := c.s.Cut([]api.Place{x.tens, x.sixties}); n != 0 || err != nil {
			t.Errorf("Cut(%v, %v) again: %d, %v", x.tens, x.sixties, n, err)
		}
	}
}

// P14.3: a sample is covered by the lanes of its key's shard alone.
func TestCutByShards(t *testing.T) {
	for shards := 1; shards <= 4; shards++ {
		for key := -5; key <= 5; key++ {
			own := (key + 60) % shards
			p := both(t, []int{10, 60}, shards, 2)
			p.put(t, sampleOf(1, 5, key))
			for lane := range 2 * shards {
				// All but one lane are beyond the sample: it is dropped, if the one isn't of its shard.
				places := repeat(upTo(9), 2*shards)
				places[lane] = upTo(0)
				want := 1
				if lane%shards == own {
					want = 0
				}
				if n, err := p.s.Clone().Cut(places); n != want || err != nil {
					t.Errorf("key %d, %d shards, lane %d: %d, %v, want %d", key, shards, lane, n, err, want)
				}
				c := p.clone(t)
				c.cut(t, places...)
			}
		}
	}
}

// P14.3: samples of the greatest and the least times and keys.
func TestCutAtTheEnds(t *testing.T) {
	for _, r := range []int{1, 2, 10, greatest} {
		p := both(t, []int{r}, 1, 9)
		seq := 0
		for _, time := range []int{least, least + 1, -1, 0, greatest - 1, greatest} {
			for _, key := range []int{least, 0, greatest} {
				seq++
				p.put(t, sampleOf(seq, time, key))
			}
		}
		for _, time := range []int{least, -1, 0, greatest} {
			for _, key := range []int{least, least + 1, 0, 1, greatest} {
				c := p.clone(t)
				c.cut(t, at(window(time, r), key))
			}
		}
		p.cut(t, at(greatest, greatest))
		if got := len(p.s.Held()); r == 1 && got != 1 || r > 1 && got != 0 {
			t.Errorf("resolution %d: %d are held beyond the greatest place", r, got)
		}
	}
}

// P14.1: a replay's operations and number, written out.
func TestReplayOfWrittenCases(t *testing.T) {
	p := both(t, []int{10}, 1, 9)
	p.put(t, sample(1, 5), mark(2, 0), sample(3, 25), mark(4, 10), sample(5, 15), sample(6, 35))
	p.cut(t, upTo(2)) // 1 and 5 are dropped, 2 isn't the last mark any more
	for _, x := range []struct {
		from, most int
		want       []int
		last       int
	}{
		{1, 9, []int{3, 4, 6}, 6},
		{1, 3, []int{3, 4, 6}, 6},
		{1, 2, []int{3, 4}, 4},
		{1, 1, []int{3}, 3},
		{1, 0, nil, 0},
		{1, -1, nil, 0},
		{1, least, nil, 0},
		{1, greatest, []int{3, 4, 6}, 6},
		{0, 9, []int{3, 4, 6}, 6},
		{0, 0, nil, -1},
		{-5, 1, []int{3}, 3},
		{-5, 0, nil, -6},
		{least, 9, []int{3, 4, 6}, 6},
		{least, 2, []int{3, 4}, 4},
		{least, 0, nil, 6}, // from less 1 is the greatest number
		{least + 1, 0, nil, least},
		{2, 1, []int{3}, 3},
		{2, 0, nil, 1},
		{3, 1, []int{3}, 3},
		{3, 0, nil, 2},
		{4, 2, []int{4, 6}, 6},
		{4, 1, []int{4}, 4},
		{4, 0, nil, 3},
		{5, 1, []int{6}, 6},
		{5, 0, nil, 4},
		{6, 1, []int{6}, 6},
		{6, 0, nil, 5},
		{7, 1, nil, 6},
		{7, 0, nil, 6},
		{7, -1, nil, 6},
		{8, 9, nil, 6},
		{greatest, 9, nil, 6},
		{greatest, 0, nil, 6},
	} {
		ops, last := p.s.Replay(x.from, x.most)
		if !slices.Equal(seqs(ops), x.want) || last != x.last {
			t.Errorf("Replay(%d, %d): %v, %d, want %v, %d", x.from, x.most, seqs(ops), last, x.want, x.last)
		}
		p.checkReplay(t, x.from, x.most)
	}
}

// P14.1: replays of a stream without operations, with a mark alone, and of one whose last operations aren't held.
func TestReplayOfLittle(t *testing.T) {
	p := both(t, []int{10}, 1, 9)
	expectReplay(t, p.s, 1, 1, 0)
	expectReplay(t, p.s, 1, 0, 0)
	expectReplay(t, p.s, -7, 0, 0)
	p.put(t, mark(1, 5))
	expectReplay(t, p.s, 1, 1, 1, 1)
	expectReplay(t, p.s, 1, 0, 0)
	expectReplay(t, p.s, 2, 0, 1)
	p.put(t, sample(2, 7), sample(3, 9))
	p.cut(t, upTo(1))
	expectReplay(t, p.s, 1, 1, 3, 1)
	expectReplay(t, p.s, 2, 1, 3)
	expectReplay(t, p.s, 2, 0, 3)
	p.put(t, sample(4, 50))
	expectReplay(t, p.s, 1, 1, 1, 1)
	expectReplay(t, p.s, 2, 1, 4, 4)
	expectReplay(t, p.s, 2, 0, 1)
	p.put(t, mark(5, 5))
	expectReplay(t, p.s, 1, 1, 4, 4)
	expectReplay(t, p.s, 1, 2, 5, 4, 5)
}

// expectReplay checks the numbers of a replay.
func expectReplay(t *testing.T, s *stream.Stream, from, most, last int, want ...int) {
	t.Helper()
	ops, got := s.Replay(from, most)
	if !slices.Equal(seqs(ops), want) || got != last {
		t.Errorf("Replay(%d, %d): %v, %d, want %v, %d", from, most, seqs(ops), got, want, last)
	}
}

// P14.4: replays from 1 on, each from behind the last one, give all that is held and the last mark, in order, once.
func TestReplaysJoin(t *testing.T) {
	s := scramble(11)
	for range 60 {
		p := both(t, []int{10}, 1, 64)
		for range s.next(40) {
			time := s.next(60)
			if s.next(5) == 0 {
				p.m.put(mark(p.m.next, time/4))
				p.s.Put(mark(p.s.Next(), time/4))
			} else {
				p.m.put(sample(p.m.next, time))
				p.s.Put(sample(p.s.Next(), time))
			}
		}
		p.cut(t, upTo(s.next(5)))
		for most := 1; most <= 6; most++ {
			expectJoined(t, p, 1, most)
			expectJoined(t, p, least, most)
		}
		expectJoined(t, p, 1, 64)
	}
}

// expectJoined checks that replays of so many operations at most give all of it, once.
func expectJoined(t *testing.T, p pair, from, most int) {
	t.Helper()
	all := p.m.all()
	var got []api.Op
	calls := 0
	for from < p.s.Next() {
		ops, last := p.s.Replay(from, most)
		if last < from || last >= p.s.Next() {
			t.Fatalf("Replay(%d, %d) answers %d", from, most, last)
		}
		if len(ops) > most {
			t.Fatalf("Replay(%d, %d): %d operations", from, most, len(ops))
		}
		got = append(got, ops...)
		from = last + 1
		calls++
	}
	if !slices.Equal(got, all) {
		t.Fatalf("replays of %d: %v, want %v", most, got, all)
	}
	if most := max(1, (len(all)+most-1)/most); calls > most {
		t.Fatalf("%d calls for %d operations", calls, len(all))
	}
}

// P14.1: Last tells of the last mark alone.
func TestLast(t *testing.T) {
	p := both(t, []int{10}, 1, 2)
	expectLast(t, p.s, 0, 0, false)
	p.put(t, sample(1, 5))
	expectLast(t, p.s, 0, 0, false)
	p.put(t, mark(2, 0))
	expectLast(t, p.s, 2, 0, true)
	p.put(t, sample(3, 5))
	expectLast(t, p.s, 2, 0, true)
	p.put(t, mark(4, 7))
	expectLast(t, p.s, 4, 7, true)
	p.put(t, mark(5, 7))
	expectLast(t, p.s, 5, 7, true)
	p.put(t, mark(6, 6))
	expectLast(t, p.s, 5, 7, true)
	r := p.restore(t, 9, none(), nil, []api.Place{upTo(0)})
	expectLast(t, r.s, 0, 0, false)
	r = p.restore(t, 9, mark(1, least), nil, []api.Place{upTo(0)})
	expectLast(t, r.s, 1, least, true)
}

// expectLast checks the last mark.
func expectLast(t *testing.T, s *stream.Stream, seq, time int, ok bool) {
	t.Helper()
	if gotSeq, gotTime, got := s.Last(); gotSeq != seq || gotTime != time || got != ok {
		t.Errorf("Last: %d, %d, %v, want %d, %d, %v", gotSeq, gotTime, got, seq, time, ok)
	}
}

// P14.1, P14.5: a clone holds the same, and what happens to one doesn't happen to the other.
func TestClone(t *testing.T) {
	p := both(t, []int{10, 60}, 2, 4)
	for range 3 {
		c := p.clone(t)
		d := c.clone(t)
		c.put(t, sample(c.m.next, 70), mark(c.m.next+1, 60))
		p.check(t)
		d.check(t)
		d.put(t, mark(d.m.next, 65), sample(d.m.next+1, 80), sample(d.m.next+2, 90))
		d.cut(t, repeat(upTo(9), 4)...)
		c.check(t)
		p.check(t)
		p.put(t, sample(p.m.next, 5), sample(p.m.next+1, 75))
		c.check(t)
		d.check(t)
		p.cut(t, repeat(upTo(1), 4)...)
		c.check(t)
		d.check(t)
		c.cut(t, repeat(upTo(8), 4)...)
		c.put(t, sample(c.m.next, 70))
		p.check(t)
		d.check(t)
	}
}

// P14.5: Put on a stream and on its clone, both of which have room, don't meet.
func TestCloneSharesNoRoom(t *testing.T) {
	p := both(t, []int{10}, 1, 64)
	for range 20 {
		c := p.clone(t)
		p.put(t, sample(p.m.next, 1))
		c.put(t, sample(c.m.next, 2))
		p.check(t)
		c.check(t)
	}
}

// P14.1: a nil stream answers ErrForm, none and 0.
func TestNilStream(t *testing.T) {
	var s *stream.Stream
	if r, err := s.Restore(1, none(), nil, nil); r != nil || err != errForm {
		t.Error("Restore:", r, err)
	}
	if r, err := s.Restore(0, none(), nil, repeat(upTo(0), 1)); r != nil || err != errForm {
		t.Error("Restore:", r, err)
	}
	if o, err := s.Sample(1, 2, 3); o != none() || err != errForm {
		t.Error("Sample:", o, err)
	}
	if o, err := s.Mark(1); o != none() || err != errForm {
		t.Error("Mark:", o, err)
	}
	for _, o := range []api.Op{none(), sample(0, 0), sample(1, 0), mark(0, 0), mark(1, 0)} {
		if err := s.Put(o); err != errForm {
			t.Error("Put:", o, err)
		}
	}
	for n := range 3 {
		if dropped, err := s.Cut(repeat(upTo(0), n)); dropped != 0 || err != errForm {
			t.Error("Cut:", dropped, err)
		}
	}
	for _, from := range []int{least, 0, 1, 5} {
		for _, most := range []int{-1, 0, 1} {
			if ops, last := s.Replay(from, most); len(ops) != 0 || last != 0 {
				t.Error("Replay:", ops, last)
			}
		}
	}
	if s.Next() != 0 || len(s.Held()) != 0 || len(s.Places()) != 0 || s.Clone() != nil {
		t.Error("Next, Held, Places, Clone")
	}
	expectLast(t, s, 0, 0, false)
}

// P14.1, P14.2: behind the greatest number the numbers wrap around; all is told in order of the numbers still.
func TestNumbersWrapAround(t *testing.T) {
	p := both(t, []int{10}, 1, 5)
	r := p.restore(t, greatest, mark(7, 1), []api.Op{sample(greatest-1, 5)}, []api.Place{upTo(0)})
	r.put(t, sample(greatest, 15))
	if got := r.s.Next(); got != least {
		t.Fatal(got)
	}
	r.put(t, sample(greatest, 15), sample(1, 15), sample(least, 25))
	if got := seqs(r.s.Held()); !slices.Equal(got, []int{least, greatest - 1, greatest}) {
		t.Error(got)
	}
	r.put(t, sample(least+1, 5), mark(least+2, 3))
	expectReplay(t, r.s, least, 9, least+2, least, least+1, least+2, greatest-1, greatest)
	expectReplay(t, r.s, least, 4, greatest-1, least, least+1, least+2, greatest-1)
	expectReplay(t, r.s, 1, 9, least+2, greatest-1, greatest)
	expectReplay(t, r.s, 1, 0, least+2)
	expectReplay(t, r.s, least, 0, least+2)
	r.cut(t, upTo(2))
	if got := seqs(r.s.Held()); !slices.Equal(got, []int{least}) {
		t.Error(got)
	}

	r = p.restore(t, greatest, none(), nil, []api.Place{upTo(0)})
	r.put(t, mark(greatest, 4))
	expectReplay(t, r.s, 1, 9, greatest, greatest)
	expectReplay(t, r.s, greatest, 0, greatest-1)
	if o, err := r.s.Sample(4, 5, 6); o.Seq != least || err != nil {
		t.Error(o, err)
	}
	expectLast(t, r.s, greatest, 4, true)
}

// asked is one call of many.
type asked func(t *testing.T, p *pair)

// smallCalls is calls that bear on one another.
func smallCalls() []asked {
	put := func(kind, time int) asked {
		return func(t *testing.T, p *pair) { p.put(t, api.Op{Seq: p.m.next, Kind: kind, Time: time}) }
	}
	cut := func(win int) asked {
		return func(t *testing.T, p *pair) { p.cut(t, upTo(win)) }
	}
	return []asked{
		put(isSample, 5), put(isSample, 15), put(isMark, 0), put(isMark, 10), put(3, 10),
		cut(1), cut(2),
		func(t *testing.T, p *pair) { p.put(t, sample(p.m.next+1, 20)) },
		func(t *testing.T, p *pair) {
			*p = p.restore(t, p.m.next+1, mark(p.m.next, 5), p.s.Held(), []api.Place{upTo(0)})
		},
	}
}

// P14.1: all short rows of calls.
func TestAllRows(t *testing.T) {
	calls := smallCalls()
	var grow func(p pair, left int)
	grow = func(p pair, left int) {
		if left == 0 {
			return
		}
		for _, call := range calls {
			q := pair{p.s.Clone(), p.m.clone()}
			call(t, &q)
			grow(q, left-1)
		}
	}
	grow(both(t, []int{10}, 1, 2), 4)
}

// anyTime is a time that is likely to lie around others.
func anyTime(s *scramble) int {
	switch s.next(30) {
	case 0:
		return []int{least, least + 1, greatest - 1, greatest}[s.next(4)]
	case 1:
		return -s.next(100)
	}
	return s.next(100)
}

// anyPlaces is as many places as there are lanes, or another number of them.
func anyPlaces(s *scramble, lanes int) []api.Place {
	if s.next(10) == 0 {
		lanes = s.next(14)
	}
	var list []api.Place
	for range lanes {
		switch s.next(20) {
		case 0:
			list = append(list, at(least, least))
		case 1:
			list = append(list, at(s.next(12)-2, greatest))
		default:
			list = append(list, at(s.next(12)-3, s.next(7)-3))
		}
	}
	return list
}

// anyOp is an operation that is likely to be next.
func anyOp(s *scramble, next int) api.Op {
	o := api.Op{Seq: next, Kind: isSample, Time: anyTime(s), Key: s.next(7) - 3, Value: s.next(100)}
	if s.next(4) == 0 {
		o = mark(next, anyTime(s)/3)
	}
	switch s.next(25) {
	case 0:
		o.Seq += s.next(3) - 1
	case 1:
		o.Kind = s.next(4)
	case 2:
		o.Key = 1
	}
	return o
}

// anyCall makes one of all calls.
func anyCall(t *testing.T, s *scramble, p *pair) {
	t.Helper()
	switch s.next(14) {
	case 0:
		*p = p.clone(t)
	case 1, 2:
		p.cut(t, anyPlaces(s, p.m.lanes())...)
	case 3:
		anyRestore(t, s, p)
	case 4:
		p.checkReplay(t, s.next(p.m.next+3)-1, s.next(9)-1)
	case 5:
		p.checkNext(t)
	default:
		p.put(t, anyOp(s, p.m.next))
	}
}

// anyRestore restores a stream of what another one holds, whole or changed.
func anyRestore(t *testing.T, s *scramble, p *pair) {
	t.Helper()
	next, samples, places := p.s.Next(), p.s.Held(), p.s.Places()
	var last api.Op
	if seq, time, ok := p.s.Last(); ok {
		last = mark(seq, time)
	}
	switch s.next(8) {
	case 0:
		next += s.next(5) - 3
	case 1:
		places = anyPlaces(s, p.m.lanes())
	case 2:
		last = anyOp(s, s.next(next+2))
	case 3:
		samples = append(samples, anyOp(s, s.next(next+2)))
	}
	if fits(next, last, samples) && len(places) == p.m.lanes() {
		*p = p.restore(t, next, last, samples, places)
		return
	}
	if r, err := p.s.Restore(next, last, samples, places); r != nil || err != errForm {
		t.Fatalf("Restore(%d, %v, %v, %v): %v, want ErrForm", next, last, samples, places, err)
	}
	p.check(t)
}

// P14.1: any calls in any order.
func TestAnyCalls(t *testing.T) {
	shapes := []struct {
		res          []int
		shards, hold int
	}{
		{[]int{10}, 1, 4},
		{[]int{10, 30}, 2, 6},
		{[]int{7, 20, 50}, 3, 8},
		{[]int{1, greatest}, 4, 1},
	}
	for seed := range 28 {
		s := scramble(seed)
		f := shapes[seed%len(shapes)]
		p := both(t, f.res, f.shards, f.hold)
		for range 60 {
			anyCall(t, &s, &p)
			if len(p.m.held) > 12 {
				p.cut(t, repeat(upTo(s.next(12)), p.m.lanes())...)
			}
			if len(p.m.held) > 12 {
				break
			}
		}
	}
}

// P14.2: numbers rise by one; marks never go back; no sample is held whose time was below the mark ahead of it.
func TestOrderOfLongRows(t *testing.T) {
	for seed := range 20 {
		s := scramble(100 + seed)
		str := made(t, []int{10, 30}, 2, 64)
		var put []api.Op // all of them, in the order in which they were put
		for range 400 {
			o := anyOp(&s, str.Next())
			if s.next(9) == 0 {
				str.Cut(anyPlaces(&s, 4))
			}
			before := str.Next()
			if err := str.Put(o); err == nil {
				put = append(put, o)
			}
			if got := str.Next(); got != len(put)+1 || got < before {
				t.Fatalf("behind %d operations the next number is %d", len(put), got)
			}
		}
		ordered(t, put, str)
	}
}

// ordered checks the rules of a row that was put, and that nothing is held but its samples.
func ordered(t *testing.T, put []api.Op, s *stream.Stream) {
	t.Helper()
	low, last := least, none()
	for i, o := range put {
		if o.Seq != i+1 || o.Time < low {
			t.Fatalf("%v was put behind a mark of %d, as operation %d", o, low, i+1)
		}
		if o.Kind == isMark {
			low, last = o.Time, o
		}
	}
	expectLast(t, s, last.Seq, last.Time, last != none())
	ahead := 0
	for _, o := range s.Held() {
		if o.Seq <= ahead || o.Kind != isSample || put[o.Seq-1] != o {
			t.Fatalf("%v is held, behind %d", o, ahead)
		}
		ahead = o.Seq
	}
}

// P14.3: over long rows what isn't held any more was counted, and all its cells are ahead of the cut.
func TestNothingIsDroppedSilently(t *testing.T) {
	for seed := range 20 {
		s := scramble(200 + seed)
		m := &model{res: []int{10, 30}, shards: 2}
		str := made(t, m.res, 2, 3)
		samples, counted := map[int]api.Op{}, 0
		for range 300 {
			if s.next(6) == 0 {
				n, _ := str.Cut(anyPlaces(&s, 4))
				counted += n
			}
			o := anyOp(&s, str.Next())
			if str.Put(o) == nil && o.Kind == isSample {
				samples[o.Seq] = o
			}
			if s.next(20) == 0 {
				str = str.Clone()
			}
			held := str.Held()
			if len(held)+counted != len(samples) {
				t.Fatalf("%d are held and %d were dropped of %d", len(held), counted, len(samples))
			}
		}
		m.cut = str.Places()
		for _, o := range str.Held() {
			if samples[o.Seq] != o {
				t.Fatalf("%v is held, which was put as %v", o, samples[o.Seq])
			}
			delete(samples, o.Seq)
		}
		for _, o := range samples {
			if !m.covered(o) {
				t.Fatalf("%v was dropped at the cut %v", o, m.cut)
			}
		}
	}
}

// roomy is a list with room behind it that holds something.
func roomy[T any](list []T, filler T) (whole, part []T) {
	whole = append(slices.Clone(list), slices.Repeat([]T{filler}, 8)...)
	return whole, whole[:len(list)]
}

// scribble writes over a list and its room.
func scribble[T any](list []T, filler T) {
	list = list[:cap(list)]
	for i := range list {
		list[i] = filler
	}
}

// P14.5: New neither changes nor keeps the resolutions.
func TestNewKeepsNothing(t *testing.T) {
	whole, res := roomy([]int{10, 60}, 77)
	before := slices.Clone(whole)
	s := made(t, res, 2, 3)
	p := both(t, []int{10, 60}, 2, 3)
	p.s = s
	p.put(t, sample(1, 5), sampleOf(2, 15, 1))
	c := p.clone(t)
	r := p.restore(t, 4, mark(1, 3), []api.Op{sample(2, 5), sampleOf(3, 25, 1)}, repeat(upTo(0), 4))
	if !slices.Equal(whole, before) {
		t.Error("the resolutions were changed:", whole)
	}
	scribble(whole, 1)
	for _, q := range []pair{p, c, r} {
		q.cut(t, repeat(upTo(1), 4)...)
		q.cut(t, repeat(upTo(2), 4)...)
		q.cut(t, repeat(upTo(3), 4)...)
	}
	if !slices.Equal(whole, slices.Repeat([]int{1}, len(whole))) {
		t.Error("the resolutions were changed:", whole)
	}
}

// P14.5: Restore neither changes nor keeps the samples and the places, nor their room.
func TestRestoreKeepsNothing(t *testing.T) {
	p := both(t, []int{10, 60}, 1, 9)
	odd, far := sample(99, 99), at(99, 99)
	wholeOps, samples := roomy([]api.Op{sample(1, 5), sample(3, 45), sample(4, 15)}, odd)
	wholePlaces, places := roomy([]api.Place{upTo(0), at(0, 3)}, far)
	beforeOps, beforePlaces := slices.Clone(wholeOps), slices.Clone(wholePlaces)
	unchanged := func() {
		t.Helper()
		if !slices.Equal(wholeOps, beforeOps) || !slices.Equal(wholePlaces, beforePlaces) {
			t.Error("changed:", wholeOps, wholePlaces)
		}
	}
	r := p.restore(t, 6, mark(2, 10), samples, places)
	unchanged()
	r.put(t, sample(6, 20), mark(7, 20), sample(8, 70))
	r.cut(t, upTo(2), upTo(1))
	r.cut(t, upTo(3), upTo(1))
	unchanged()
	q := p.restore(t, 6, mark(2, 10), samples, places)
	scribble(wholeOps, odd)
	scribble(wholePlaces, far)
	r.check(t)
	q.check(t)
	q.cut(t, upTo(2), upTo(1))
	q.put(t, sample(6, 20))
	if !slices.Equal(wholeOps, slices.Repeat([]api.Op{odd}, len(wholeOps))) || !slices.Equal(wholePlaces, repeat(far, len(wholePlaces))) {
		t.Error("changed:", wholeOps, wholePlaces)
	}
	// What is refused is left as it is, too.
	beforeOps, beforePlaces = slices.Clone(wholeOps), slices.Clone(wholePlaces)
	if _, err := p.s.Restore(6, mark(2, 10), samples, places); err != errForm {
		t.Error(err)
	}
	unchanged()
}

// P14.5: Cut neither changes nor keeps the places, nor their room.
func TestCutKeepsNothing(t *testing.T) {
	p := both(t, []int{10, 60}, 1, 9)
	p.put(t, sample(1, 5), sample(2, 65))
	far := at(99, 99)
	whole, places := roomy([]api.Place{upTo(1), upTo(0)}, far)
	before := slices.Clone(whole)
	p.cut(t, places...)
	if !slices.Equal(whole, before) {
		t.Error("changed:", whole)
	}
	scribble(whole, far)
	p.check(t)
	p.cut(t, upTo(2), upTo(1))
	if !slices.Equal(whole, repeat(far, len(whole))) {
		t.Error("changed:", whole)
	}
	if _, err := p.s.Cut(places[:1]); err != errForm {
		t.Error(err)
	}
	if !slices.Equal(whole, repeat(far, len(whole))) {
		t.Error("changed:", whole)
	}
}

// P14.5: answers are new memory: who writes over one, or over its room, changes neither the stream nor another answer.
func TestAnswersAreNewMemory(t *testing.T) {
	p := both(t, []int{10, 60}, 1, 9)
	odd, far := sample(99, 99), at(99, 99)
	// By steps, so that the stream's own lists have room and have not.
	for i := range 12 {
		p.put(t, sample(p.m.next, 5*i))
		if i == 4 || i == 9 {
			p.put(t, mark(p.m.next, 5*i))
		}
		if i == 7 {
			p.cut(t, upTo(2), upTo(1))
		}
		c := p.clone(t)
		held, kept := p.s.Held(), p.s.Held()
		scribble(held, odd)
		places, keptPlaces := p.s.Places(), p.s.Places()
		scribble(places, far)
		if !slices.Equal(kept, order(p.m.held)) || !slices.Equal(keptPlaces, p.m.cut) {
			t.Fatal("two answers share memory")
		}
		for from := range p.m.next + 1 {
			for most := range p.m.next + 1 {
				ops, _ := p.s.Replay(from, most)
				again, _ := p.s.Replay(from, most)
				want := slices.Clone(again)
				scribble(ops, odd)
				if !slices.Equal(again, want) {
					t.Fatal("two replays share memory")
				}
			}
		}
		p.check(t)
		c.check(t)
		// Nor is an answer changed by what happens to the stream behind it.
		kept, keptPlaces = c.s.Held(), c.s.Places()
		ops, _ := c.s.Replay(1, 99)
		wantKept, wantPlaces, wantOps := slices.Clone(kept), slices.Clone(keptPlaces), slices.Clone(ops)
		c.put(t, sample(c.m.next, 1000), mark(c.m.next+1, 900))
		c.cut(t, repeat(upTo(60), 2)...)
		c.put(t, sample(c.m.next, 1000))
		if !slices.Equal(kept, wantKept) || !slices.Equal(keptPlaces, wantPlaces) || !slices.Equal(ops, wantOps) {
			t.Fatal("an answer was changed")
		}
	}
}

// P14.1: nil and empty lists mean the same.
func TestNilAndEmpty(t *testing.T) {
	p := both(t, []int{10}, 1, 2)
	p.put(t, mark(1, 5))
	one := []api.Place{upTo(1)}
	p.restore(t, 3, none(), nil, one)
	p.restore(t, 3, none(), []api.Op{}, one)
	p.restore(t, 3, none(), make([]api.Op, 0, 5), one)
	for _, places := range [][]api.Place{nil, {}, make([]api.Place, 0, 5)} {
		if n, err := p.s.Cut(places); n != 0 || err != errForm {
			t.Error(n, err)
		}
		if r, err := p.s.Restore(3, none(), nil, places); r != nil || err != errForm {
			t.Error(r, err)
		}
	}
	for _, res := range [][]int{nil, {}, make([]int, 0, 5)} {
		if s, err := stream.New(res, 1, 1); s != nil || err != errForm {
			t.Error(s, err)
		}
	}
	p.check(t)
}
