package tender_test

import (
	"slices"
	"testing"

	"estuary/api"
	"estuary/cell"
	"estuary/keeper"
	"estuary/note"
	"estuary/outfall"
	"estuary/spring"
	"estuary/tape"
)

// handler is a node that answers notes.
type handler interface{ Handle(n api.Note) []api.Note }

// whose is a tender in one of its lives.
type whose struct{ node, life int }

// world is a cluster of a plan, the messages on their way in it, and all that its sources ever emitted.
type world struct {
	scramble
	p       api.Plan
	springs []*spring.Spring
	tenders [tenders]*pair
	lives   [tenders]int
	keepers []*keeper.Keeper
	sink    *outfall.Outfall
	way     [][]byte
	streams [][]api.Op           // by source
	cells   map[api.Id]api.Cell  // what all samples come to
	batches []api.Batch          // all that were sent
	leaders map[int]whose        // by epoch
	counts  map[int]int          // how many notes were handled, by kind
	bounds  [api.MaxSources]int  // each source's mark
	marked  [api.MaxSources]bool // whether it has one
}

// cluster is a world in which nothing happened yet; its sources replay at most so many operations at once.
func cluster(t *testing.T, seed int, p api.Plan, chunk int) *world {
	t.Helper()
	w := &world{scramble: scramble(seed), p: p, streams: make([][]api.Op, p.Sources), cells: map[api.Id]api.Cell{}, leaders: map[int]whose{}, counts: map[int]int{}}
	for i := range p.Sources {
		s, err := spring.Open(i, p.Res, p.Shards, p.Hold, chunk, tape.New())
		if err != nil {
			t.Fatal(err)
		}
		w.springs = append(w.springs, s)
	}
	for i := range p.Keepers {
		k, err := keeper.Open(keeperNode(p, i), tape.New())
		if err != nil {
			t.Fatal(err)
		}
		w.keepers = append(w.keepers, k)
	}
	o, err := outfall.Open(sinkNode(p), lanes(p), tape.New())
	if err != nil {
		t.Fatal(err)
	}
	w.sink = o
	for i := range tenders {
		w.tenders[i] = made(t, tenderNode(p, i), 0, p)
	}
	return w
}

// rebirth lets a tender begin anew, in its next life.
func (w *world) rebirth(t *testing.T, i int) {
	t.Helper()
	w.lives[i]++
	w.tenders[i] = made(t, tenderNode(w.p, i), w.lives[i], w.p)
}

// emit lets a source emit a sample, if it takes it, and tells whether it did.
func (w *world) emit(t *testing.T, source, time, key, value int) bool {
	t.Helper()
	o, err := w.springs[source].Emit(time, key, value)
	if err != nil {
		return false
	}
	w.streams[source] = append(w.streams[source], o)
	for i, r := range w.p.Res {
		id := api.Id{Lane: i*w.p.Shards + (key%w.p.Shards+w.p.Shards)%w.p.Shards, Place: at(window(time, r), key)}
		w.cells[id] = cell.Join(w.cells[id], cell.One(source, o))
	}
	return true
}

// mark lets a source emit a mark.
func (w *world) mark(t *testing.T, source, time int) {
	t.Helper()
	o, err := w.springs[source].Mark(time)
	if err != nil {
		t.Fatal(err)
	}
	w.streams[source] = append(w.streams[source], o)
	w.bounds[source], w.marked[source] = time, true
}

// window is the window of a time.
func window(time, r int) int {
	if time%r < 0 {
		return time/r - 1
	}
	return time / r
}

// closed is the place up to which a lane is closed by all sources' marks, and whether there is one.
func (w *world) closed(lane int) (api.Place, bool) {
	if slices.Contains(w.marked[:w.p.Sources], false) {
		return api.Place{}, false
	}
	return upTo(window(slices.Min(w.bounds[:w.p.Sources]), w.p.Res[lane/w.p.Shards])), true
}

// send puts notes on their way.
func (w *world) send(t *testing.T, list []api.Note) {
	t.Helper()
	for _, n := range list {
		b, err := note.Encode(n)
		if err != nil {
			t.Fatal(n, err)
		}
		w.way = append(w.way, b)
	}
}

// tick lets a tender tick, and checks what it sends to the sink.
func (w *world) tick(t *testing.T, i int) {
	t.Helper()
	o := w.tenders[i]
	bases := o.bases()
	list := o.tick(t)
	if !slices.Equal(o.bases(), bases) {
		t.Fatalf("a Tick raised %v to %v", bases, o.bases())
	}
	for _, n := range of(list, isBatch) {
		places := placed(n.Nums[2:])
		b := api.Batch{Epoch: n.Nums[0], Lane: n.Nums[1], From: places[0], To: places[1], Entries: n.Entries}
		w.check(t, o, b)
		w.batches = append(w.batches, b)
	}
	w.send(t, list)
}

// check checks a batch that a tender sends, as P20.2 says it.
func (w *world) check(t *testing.T, o *pair, b api.Batch) {
	t.Helper()
	epoch, leads := o.x.Leads()
	l, _ := o.x.Lease()
	me := whose{o.m.node, o.m.life}
	if !leads || epoch != b.Epoch || l.Epoch != b.Epoch || me != (whose{l.Holder, l.Life}) {
		t.Fatalf("%v sends in epoch %d, leads in %d, %v, by the lease %v", me, b.Epoch, epoch, leads, l)
	}
	if other, ok := w.leaders[epoch]; ok && other != me {
		t.Fatalf("epoch %d is that of %v and of %v", epoch, other, me)
	}
	w.leaders[epoch] = me
	closed, ok := w.closed(b.Lane)
	if !ok || ahead(closed, b.To) || !ahead(b.From, b.To) || b.From != o.x.Base(b.Lane) {
		t.Fatalf("lane %d from %v to %v, closed up to %v, %v", b.Lane, b.From, b.To, closed, ok)
	}
	if want := w.between(b.Lane, b.From, b.To); !slices.Equal(b.Entries, want) || len(want) > w.p.Batch {
		t.Fatalf("lane %d from %v to %v: %v, want %v", b.Lane, b.From, b.To, b.Entries, want)
	}
}

// between is what the samples of a lane from a place on, ahead of another one, come to.
func (w *world) between(lane int, from, to api.Place) []api.Entry {
	var list []api.Entry
	for id, c := range w.cells {
		if id.Lane == lane && !ahead(id.Place, from) && ahead(id.Place, to) {
			list = append(list, api.Entry{Place: id.Place, Cell: c})
		}
	}
	slices.SortFunc(list, func(a, b api.Entry) int {
		return slices.Compare(numbers(a.Place), numbers(b.Place))
	})
	return list
}

// take takes a message from its way.
func (w *world) take(i int) []byte {
	b := w.way[i]
	w.way = slices.Delete(w.way, i, i+1)
	return b
}

// deliver delivers a message.
func (w *world) deliver(t *testing.T, i int) {
	t.Helper()
	n, err := note.Decode(w.take(i))
	if err != nil {
		t.Fatal(err)
	}
	w.counts[n.Kind]++
	first := n.To - w.p.Sources
	switch {
	case n.To < w.p.Sources:
		w.send(t, w.springs[n.To].Handle(n))
	case first < tenders:
		w.send(t, w.handle(t, w.tenders[first], n))
	case n.To < sinkNode(w.p):
		w.send(t, w.keepers[first-tenders].Handle(n))
	default:
		w.send(t, w.sink.Handle(n))
	}
}

// handle hands a note to a tender, and checks that lanes are raised just as P20.3 says it.
func (w *world) handle(t *testing.T, o *pair, n api.Note) []api.Note {
	t.Helper()
	was := o.bases()
	sent := o.handle(t, n)
	var by []api.Place
	switch n.Kind {
	case isReplay:
		by = placed(n.Nums[2:])
	case isAck:
		by = starts(w.p)
		by[n.Nums[0]] = at(n.Nums[2], n.Nums[3])
	case isDone:
		by, _ = o.x.Cursor()
	}
	for lane, now := range o.bases() {
		if now != was[lane] && (len(by) == 0 || now != by[lane] || ahead(now, was[lane])) {
			t.Fatalf("lane %d was raised from %v to %v by %v", lane, was[lane], now, n)
		}
	}
	return sent
}

// still delivers all messages, in their order, till there is none.
func (w *world) still(t *testing.T) {
	t.Helper()
	for len(w.way) > 0 {
		w.deliver(t, 0)
	}
}

// flushed tells whether the sink has all that is closed.
func (w *world) flushed() bool {
	for lane := range lanes(w.p) {
		if closed, ok := w.closed(lane); ok && ahead(w.sink.Frontier(lane), closed) {
			return false
		}
	}
	return true
}

// operations is how many operations there are.
func (w *world) operations() int {
	n := 0
	for _, ops := range w.streams {
		n += len(ops)
	}
	return n
}

// alone lets a tender tick by itself, all notes being delivered, up to so many times: with which tick it led, and with which one all that is closed was flushed; 0, if it wasn't.
func (w *world) alone(t *testing.T, i, most int) (led, flushed int) {
	t.Helper()
	for n := 1; n <= most; n++ {
		w.tick(t, i)
		w.still(t)
		_, leads := w.tenders[i].x.Leads()
		if leads && led == 0 {
			led = n
		}
		if leads && w.flushed() {
			return led, n
		}
	}
	return led, 0
}

// inTime lets a tender flush by itself, and checks that it leads and has flushed all in the ticks that P20.4 says.
func (w *world) inTime(t *testing.T, i int) (led, flushed int) {
	t.Helper()
	toLead := w.p.Lease + 16
	toFlush := w.operations() + len(w.cells) + 8
	led, flushed = w.alone(t, i, toLead+toFlush)
	if led == 0 || led > toLead || flushed == 0 {
		t.Fatalf("it leads with tick %d, of %d; has flushed with tick %d, of %d more", led, toLead, flushed, toFlush)
	}
	w.read(t)
	return led, flushed
}

// read checks that each closed cell is read as what its samples come to.
func (w *world) read(t *testing.T) {
	t.Helper()
	for id, want := range w.cells {
		closed, ok := w.closed(id.Lane)
		if !ok || !ahead(id.Place, closed) {
			continue
		}
		if got, err := w.sink.Read(id.Lane, id.Place); got != want || err != nil {
			t.Fatalf("Read(%v): %v, %v, want %v", id, got, err, want)
		}
	}
}
