package outfall_test

import (
	"slices"
	"testing"

	"estuary/api"
	"estuary/basin"
	"estuary/cell"
	"estuary/gate"
	"estuary/note"
	"estuary/outfall"
	"estuary/place"
	"estuary/post"
	"estuary/tape"
)

// What the leaders' streams are made of.
const (
	streams = 2
	shards  = 2
)

// resolutions is those of the leaders' lanes.
func resolutions() []int { return []int{10, 30} }

// leader is one that gathers the streams in an epoch, and sends batches.
type leader struct {
	epoch int
	b     *basin.Basin
}

// elect is a leader that gathered nothing yet.
func elect(t *testing.T, epoch int) *leader {
	t.Helper()
	b, err := basin.New(streams, resolutions(), shards, api.MaxCells)
	if err != nil {
		t.Fatal(err)
	}
	return &leader{epoch, b}
}

// gather gathers up to so many operations of a stream.
func (l *leader) gather(t *testing.T, source int, ops []api.Op, most int) {
	t.Helper()
	from := l.b.Next(source)
	last := min(from-1+most, len(ops))
	cut := slices.Repeat([]api.Place{start()}, l.b.Lanes())
	if err := l.b.Feed(source, from, last, cut, ops[from-1:last]); err != nil {
		t.Fatal(err)
	}
}

// flush sends the next batch of a lane, or asks for its frontier.
func (l *leader) flush(t *testing.T, p *post.Post, lane, most int, probe bool) {
	t.Helper()
	b, ok := gate.Next(l.b, l.epoch, lane, most)
	if probe {
		b = gate.Probe(l.b, l.epoch, lane)
	} else if !ok {
		return
	}
	// Who leads in an epoch is told by its number, so that the answer finds it.
	sent, err := note.Encode(gate.Note(l.epoch, self, b))
	if err != nil {
		t.Fatal(err)
	}
	p.Send(sent)
}

// world is streams, all leaders that ever were, by epoch less 1, a post between them, and a sink.
type world struct {
	scramble
	ops     [streams][]api.Op
	time    [streams]int
	leaders []*leader
	post    *post.Post
	x       *tape.Tape
	o       *outfall.Outfall
	seen    map[api.Id]api.Cell
	crashes int
}

// lanes is how many lanes there are.
func (w *world) lanes() int { return len(resolutions()) * shards }

// emit emits a sample, or a mark, of a source.
func (w *world) emit() {
	source := w.next(streams)
	o := api.Op{Seq: len(w.ops[source]) + 1, Kind: isSample, Time: w.time[source] + w.next(40), Key: w.next(5) - 2, Value: w.next(2000) - 1000}
	if w.next(4) == 0 {
		w.time[source] += w.next(12)
		o = api.Op{Seq: o.Seq, Kind: isMark, Time: w.time[source]}
	}
	w.ops[source] = append(w.ops[source], o)
}

// deliver delivers a message, be it a batch or an answer.
func (w *world) deliver(t *testing.T, i int) {
	t.Helper()
	b, ok := w.post.Deliver(i)
	if !ok {
		return
	}
	n, err := note.Decode(b)
	if err != nil {
		t.Fatal(err)
	}
	if n.Kind == isAck {
		w.leaders[n.To-1].b.Raise(n.Nums[0], at(n.Nums[2], n.Nums[3]))
		return
	}
	if w.x.Down() {
		return
	}
	for _, back := range w.o.Handle(n) {
		bytes, err := note.Encode(back)
		if err != nil {
			t.Fatal(err)
		}
		w.post.Send(bytes)
	}
}

// start starts the sink behind a crash.
func (w *world) start(t *testing.T, keep int) {
	t.Helper()
	w.x.Crash(keep)
	o, err := outfall.Open(self, w.lanes(), w.x)
	if err != nil {
		t.Fatal(err)
	}
	w.o = o
	w.crashes++
}

// step lets something happen.
func (w *world) step(t *testing.T) {
	t.Helper()
	l := w.leaders[len(w.leaders)-1]
	// Elder leaders don't know that they are none any more.
	if w.next(3) == 0 {
		l = w.leaders[w.next(len(w.leaders))]
	}
	switch w.next(16) {
	case 0, 1, 2, 3:
		w.emit()
	case 4, 5, 6:
		source := w.next(streams)
		l.gather(t, source, w.ops[source], 1+w.next(8))
	case 7, 8, 9:
		l.flush(t, w.post, w.next(w.lanes()), 1+w.next(4), w.next(9) == 0)
	case 10, 11, 12:
		w.deliver(t, w.next(1+w.post.Len()))
	case 13:
		w.post.Drop(w.next(1 + w.post.Len()))
	case 14:
		w.post.Copy(w.next(1 + w.post.Len()))
	default:
		switch w.next(8) {
		case 0:
			w.leaders = append(w.leaders, elect(t, len(w.leaders)+1))
		case 1:
			w.x.Arm(w.next(3))
		case 2:
			w.x.Fail(w.next(3))
		case 3, 4:
			w.start(t, w.next(200)-1)
		}
	}
}

// calm lets the last leader gather and flush all.
func (w *world) calm(t *testing.T) {
	t.Helper()
	w.start(t, 0)
	l := w.leaders[len(w.leaders)-1]
	for source := range streams {
		l.gather(t, source, w.ops[source], len(w.ops[source]))
	}
	for range 400 {
		for lane := range w.lanes() {
			l.flush(t, w.post, lane, 3, false)
		}
		for w.post.Len() > 0 {
			w.deliver(t, 0)
		}
	}
}

// all is what all samples come to, by their cells' names, out of streams up to now.
func (w *world) all() map[api.Id]api.Cell {
	cells := map[api.Id]api.Cell{}
	for source, list := range w.ops {
		for _, o := range list {
			if o.Kind != isSample {
				continue
			}
			for _, id := range place.Ids(o, resolutions(), shards) {
				cells[id] = cell.Join(cells[id], cell.One(source, o))
			}
		}
	}
	return cells
}

// check checks that the sink's log is as told, that each cell that may be read is what all samples come to, and stays.
func (w *world) check(t *testing.T) {
	t.Helper()
	onceOnly(t, w.o, w.lanes())
	for id, want := range w.seen {
		if got, err := w.o.Read(id.Lane, id.Place); got != want || err != nil {
			t.Fatalf("Read(%d, %v): %v, %v, was %v", id.Lane, id.Place, got, err, want)
		}
	}
	entries := 0
	for _, b := range w.o.Log() {
		entries += len(b.Entries)
	}
	for id, want := range w.all() {
		switch got, err := w.o.Read(id.Lane, id.Place); {
		case err == errNotYet:
		case got != want || err != nil:
			t.Fatalf("Read(%d, %v): %v, %v, want %v", id.Lane, id.Place, got, err, want)
		default:
			w.seen[id] = got
			entries--
		}
	}
	if entries != 0 {
		t.Fatalf("%d entries more than cells", entries)
	}
}

// P18.2 and P18.3: leaders of rising epochs, elder ones among them, send batches that are lost, copied and late, while the sink crashes: each cell is accepted once, as what all samples come to, and in the end all closed ones are.
func TestLeaders(t *testing.T) {
	cells, crashes := 0, 0
	for seed := range 40 {
		w := &world{scramble: scramble(seed + 500), post: post.New(), x: tape.New(), seen: map[api.Id]api.Cell{}}
		w.leaders = []*leader{elect(t, 1)}
		w.start(t, 0)
		for i := range 1500 {
			w.step(t)
			if i%100 == 0 {
				w.check(t)
			}
		}
		w.calm(t)
		w.check(t)
		last := w.leaders[len(w.leaders)-1].b
		for lane := range w.lanes() {
			if closed, ok := last.Closed(lane); ok && w.o.Frontier(lane) != closed {
				t.Errorf("lane %d came to %v, is closed up to %v", lane, w.o.Frontier(lane), closed)
			}
		}
		cells += len(w.seen)
		crashes += w.crashes
	}
	if cells < 1000 || crashes < 300 {
		t.Errorf("%d cells are read, the sink crashes %d times", cells, crashes)
	}
}
