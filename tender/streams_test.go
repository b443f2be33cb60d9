package tender_test

import (
	"slices"
	"testing"

	"estuary/api"
)

// storm is a plan, with how many operations a replay has at most.
type storm struct {
	p     api.Plan
	chunk int
}

// storms is plans of all sizes.
func storms() []storm {
	return []storm{
		{api.Plan{Sources: 1, Keepers: 1, Res: []int{10}, Shards: 1, Hold: 64, Cells: 400, Batch: 1, Lease: 2}, 4},
		{api.Plan{Sources: 2, Keepers: 3, Res: []int{10, 30}, Shards: 2, Hold: 20, Cells: 400, Batch: 2, Lease: 3}, 3},
		{api.Plan{Sources: 3, Keepers: 3, Res: []int{1, 10, 60}, Shards: 3, Hold: 40, Cells: 1024, Batch: 5, Lease: 6}, 8},
		{api.Plan{Sources: 4, Keepers: 5, Res: []int{7, 7}, Shards: 4, Hold: 64, Cells: 400, Batch: 16, Lease: 4}, 16},
		{api.Plan{Sources: 2, Keepers: 5, Res: []int{5, 20}, Shards: 1, Hold: 9, Cells: 60, Batch: 3, Lease: 1}, 2},
		{api.Plan{Sources: 1, Keepers: 3, Res: []int{5, 20}, Shards: 2, Hold: 12, Cells: 40, Batch: 3, Lease: 8}, 4},
	}
}

// stir lets something happen: a source emits, a tender ticks or begins anew, a message is taken up from anywhere, lost or copied.
func (w *world) stir(t *testing.T, step int) {
	t.Helper()
	source, which := w.next(w.p.Sources), 0
	if len(w.way) > 0 {
		which = w.next(len(w.way))
	}
	switch n := w.next(40); {
	case n < 3:
		w.emit(t, source, w.bounds[source]+w.next(35), w.next(5)-2, w.next(2001)-1000)
	case n < 5:
		w.mark(t, source, w.bounds[source]+w.next(12))
	case n < 9:
		// Each of them is silent for a while, now and then.
		if i := w.next(tenders); step/300%3 != i {
			w.tick(t, i)
		}
	case n == 9 && w.next(9) == 0:
		w.rebirth(t, w.next(tenders))
	case len(w.way) == 0:
	case n == 10 || len(w.way) > 150:
		w.take(which)
	case n == 11:
		w.way = append(w.way, slices.Clone(w.way[which]))
	case n < 33:
		w.deliver(t, 0)
	default:
		w.deliver(t, which)
	}
}

// P20.2 and P20.3: two tenders, now and then in other lives, are fed by sources whose replays are lost, doubled and late, as all notes are: each batch lies within what all sources' marks close, and has just the cells of their samples there; it is sent in the epoch of its sender's lease, which no other one ever has. In the end one by itself flushes all.
func TestStorms(t *testing.T) {
	batches, entries, epochs := 0, 0, 0
	for _, s := range storms() {
		for seed := range 8 {
			w := cluster(t, 1000*seed+7, s.p, s.chunk)
			// Times below 0, too.
			for source := range s.p.Sources {
				w.mark(t, source, -60)
			}
			for step := range 5000 {
				w.stir(t, step)
			}
			w.calm(t, seed%tenders)
			batches += len(w.batches)
			epochs += len(w.leaders)
			for _, b := range w.batches {
				entries += len(b.Entries)
			}
			for kind := isPrepare; kind <= isAck; kind++ {
				if w.counts[kind] == 0 {
					t.Errorf("no note of kind %d was handled", kind)
				}
			}
		}
	}
	if batches < 10000 || entries < 20000 || epochs < 200 {
		t.Errorf("%d batches of %d entries in %d epochs", batches, entries, epochs)
	}
}

// calm lets one tender flush all by itself, where its plan's cells find room, behind all that is on its way still.
func (w *world) calm(t *testing.T, i int) {
	t.Helper()
	w.still(t)
	if w.p.Cells < 400 {
		w.alone(t, i, 60)
		w.readable(t)
		return
	}
	w.inTime(t, i)
}

// readable checks that each cell that is read is what its samples come to, and is how many these are.
func (w *world) readable(t *testing.T) int {
	t.Helper()
	n := 0
	for id, want := range w.cells {
		got, err := w.sink.Read(id.Lane, id.Place)
		if err == nil && got != want {
			t.Fatalf("Read(%v): %v, want %v", id, got, want)
		}
		if err == nil {
			n++
		}
	}
	return n
}

// P20.2: replays from numbers' beginnings on, in any parts, doubled and in any order: each batch has just the cells of what was told to it, up to what it was told is closed.
func TestReplaysInAnyOrder(t *testing.T) {
	for seed := range 60 {
		s := scramble(seed + 3)
		w := cluster(t, seed, ordinary(), 4)
		o := w.tenders[0]
		o.lead(t, 5)
		for i := range 2 * ordinary().Hold {
			w.emit(t, i%2, 3*i+s.next(9), s.next(4), s.next(100))
			if s.next(3) == 0 {
				w.mark(t, i%2, 3*i)
			}
		}
		w.mark(t, 0, 75)
		w.mark(t, 1, 62)
		// Each answer that a source may ever give.
		var replays []api.Note
		for source, ops := range w.streams {
			for from := range len(ops) + 2 {
				replays = append(replays, w.springs[source].Handle(api.Note{Kind: isNeed, From: 2, To: source, Nums: []int{from}})...)
			}
		}
		for o.x.Next(0) <= len(w.streams[0]) || o.x.Next(1) <= len(w.streams[1]) {
			w.handle(t, o, replays[s.next(len(replays))])
			w.tick(t, 0)
		}
		w.way = nil
		w.tick(t, 0)
		if got := len(w.batches); got < 4 {
			t.Fatalf("%d batches", got)
		}
	}
}

// P20.2: a tender that begins when samples were dropped has the cells behind the cut alone, and these whole.
func TestBeginsBehindACut(t *testing.T) {
	dropped, read := 0, 0
	for _, s := range storms() {
		for seed := range 6 {
			w := cluster(t, seed+99, s.p, s.chunk)
			for round := range 8 {
				for i := range 30 {
					source := w.next(s.p.Sources)
					w.emit(t, source, w.bounds[source]+w.next(30), w.next(4), w.next(99))
					if i%5 == 0 {
						w.mark(t, source, w.bounds[source]+w.next(20))
					}
				}
				w.alone(t, round%tenders, 40)
				w.rebirth(t, w.next(tenders))
			}
			read += w.readable(t)
			for source, ops := range w.streams {
				dropped += len(ops) - len(w.springs[source].Stream().Held())
			}
		}
	}
	if dropped < 3000 || read < 2000 {
		t.Errorf("%d operations are dropped, %d cells are read", dropped, read)
	}
}
