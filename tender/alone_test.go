package tender_test

import (
	"slices"
	"testing"

	"estuary/api"
)

// scatter lets all sources emit samples and marks, as many as they hold; the last mark of each closes most of them.
func (w *world) scatter(t *testing.T, most int) {
	t.Helper()
	for source := range w.p.Sources {
		from := w.bounds[source]
		for i := range most {
			w.emit(t, source, from+w.next(50), w.next(6)-3, w.next(1000))
			if i%7 == 6 {
				from += w.next(20)
				w.mark(t, source, from)
			}
		}
		w.mark(t, source, from+30)
	}
}

// clusters is plans for tenders by themselves.
func clusters() []api.Plan {
	var list []api.Plan
	for _, keepers := range []int{1, 3, 5} {
		for _, length := range []int{1, 2, 3, 7, 20} {
			list = append(list,
				api.Plan{Sources: 1, Keepers: keepers, Res: []int{10}, Shards: 1, Hold: 30, Cells: 1024, Batch: 1, Lease: length},
				api.Plan{Sources: 3, Keepers: keepers, Res: []int{5, 30}, Shards: 2, Hold: 40, Cells: 1024, Batch: 3, Lease: length},
				api.Plan{Sources: 4, Keepers: keepers, Res: []int{1, 5, 30}, Shards: 4, Hold: 64, Cells: 1024, Batch: 16, Lease: length},
			)
		}
	}
	return list
}

// P20.4: where nothing happened yet a tender by itself leads with its third Tick: it reads the lease, then the cursor, then it takes the lease.
func TestLeadsAlone(t *testing.T) {
	for _, p := range clusters() {
		for i := range tenders {
			w := cluster(t, 1, p, 8)
			if led, _ := w.inTime(t, i); led != 3 {
				t.Errorf("%v: it leads with tick %d", p, led)
			}
			w.tenders[i].leads(t, 1)
		}
	}
}

// P20.4: a tender by itself leads, and flushes all that is closed, in time; what comes later is flushed in time, too.
func TestFlushesAlone(t *testing.T) {
	for seed, p := range clusters() {
		for _, chunk := range []int{1, 8} {
			w := cluster(t, seed, p, chunk)
			for round := range 3 {
				w.scatter(t, 10+10*round)
				w.inTime(t, seed%tenders)
				if _, flushed := w.alone(t, seed%tenders, 1); flushed != 1 {
					t.Fatal("it doesn't stay flushed")
				}
			}
		}
	}
}

// P20.4: so does one behind another one, which fell silent while it led, in the middle of a flush; the lease is taken over, and the sink's log goes on where it was. The silent one comes back, and follows.
func TestOneFallsSilent(t *testing.T) {
	for seed, p := range clusters() {
		for _, ticks := range []int{3, 5, 9} {
			w := cluster(t, seed, p, 3)
			w.scatter(t, 20)
			w.alone(t, 0, ticks)
			w.tenders[0].leads(t, 1)
			w.scatter(t, 10)
			w.inTime(t, 1)
			w.tenders[1].leads(t, 2)
			// What the elder one sends still is right, but isn't accepted: its epoch is below the lane's.
			w.scatter(t, 10)
			was := len(w.sink.Log())
			for lag := 0; ; lag++ {
				w.tick(t, 0)
				w.still(t)
				if _, leads := w.tenders[0].x.Leads(); !leads {
					break
				}
				if lag > 2*roundTicks {
					t.Fatal("two lead")
				}
			}
			for _, b := range w.sink.Log()[was:] {
				if b.Epoch == 1 && w.sink.Epoch(b.Lane) == 2 {
					t.Fatalf("lane %d: a batch of epoch 1 behind epoch 2", b.Lane)
				}
			}
			w.inTime(t, 1)
		}
	}
}

// P20.4: a tender that follows doesn't lead while the leader renews its lease; each of them has flushed all that is closed then.
func TestLeaderStays(t *testing.T) {
	for seed, p := range clusters() {
		// A shorter lease is too old as soon as its next round is due.
		if p.Lease < 3 {
			continue
		}
		w := cluster(t, seed, p, 8)
		w.scatter(t, 20)
		w.alone(t, 0, 3)
		for range 60 {
			for i := range tenders {
				w.tick(t, i)
				w.still(t)
			}
			w.tenders[0].leads(t, 1)
			w.tenders[1].leads(t, 0)
		}
		if !w.flushed() || !slices.Equal(w.tenders[0].bases(), w.tenders[1].bases()) {
			t.Errorf("%v: flushed %v, bases %v and %v", p, w.flushed(), w.tenders[0].bases(), w.tenders[1].bases())
		}
	}
}

// P20.4: many lives of one tender, each of which ended with a round under way: the next one is in time all the same.
func TestManyLives(t *testing.T) {
	for seed, p := range clusters() {
		w := cluster(t, seed, p, 8)
		for life := range 12 {
			w.scatter(t, 4)
			for range 1 + w.next(12) {
				w.tick(t, life%tenders)
				for range w.next(30) {
					if len(w.way) > 0 {
						w.deliver(t, 0)
					}
				}
			}
			w.way = nil
			w.rebirth(t, life%tenders)
		}
		w.inTime(t, 0)
		w.inTime(t, 1)
	}
}

// P20.4: what else stands in the registers, and what the keepers promised, holds a tender up no longer than that.
func TestFlushesOverOddRegisters(t *testing.T) {
	for seed, p := range clusters() {
		for _, values := range [][2][]int{
			{{1, 2, 3}, nil},
			{lease(5, tenderNode(p, 1), 0, 9), numbers(starts(p)...)},
			{lease(5, tenderNode(p, 0), 8, 9), nil},
			{lease(1<<40, 999, 3, 3), nil},
			{nil, make([]int, 31)},
		} {
			w := cluster(t, seed, p, 8)
			w.scatter(t, 15)
			b := api.Ballot{N: 70, Node: 999, Life: 5}
			for key, value := range values {
				for i, k := range w.keepers {
					n := api.Note{Kind: isAccept, From: 0, To: keeperNode(p, i), Nums: append(asked(key, b), value...)}
					if sent := k.Handle(n); len(sent) != 1 || sent[0].Kind != isDone {
						t.Fatal(sent)
					}
				}
			}
			w.inTime(t, 0)
		}
	}
}

// P20.4: with no more cells than the streams need at once, and with one too few it isn't flushed.
func TestFlushesInLittleRoom(t *testing.T) {
	for _, keys := range []int{1, 2, 7} {
		for _, res := range [][]int{{10}, {10, 30}, {30, 10, 10}} {
			for sources := 1; sources <= 4; sources++ {
				for _, most := range []int{1, 3, 16} {
					p := api.Plan{Sources: sources, Keepers: 3, Res: res, Shards: 1, Hold: 64, Cells: keys * len(res), Batch: most, Lease: 3}
					w := cluster(t, 5, p, 8)
					for win := range 7 {
						w.fill(t, win, keys)
						w.inTime(t, 0)
					}
					if p.Cells == 1 {
						continue
					}
					p.Cells--
					w = cluster(t, 5, p, 8)
					w.fill(t, 0, keys)
					if w.alone(t, 0, 100); w.flushed() {
						t.Errorf("%d cells are enough", p.Cells)
					}
				}
			}
		}
	}
}

// fill lets each source emit a sample for each of so many keys in a window of ten, and the mark behind it.
func (w *world) fill(t *testing.T, win, keys int) {
	t.Helper()
	for source := range w.p.Sources {
		for key := range keys {
			w.emit(t, source, 10*win+source, key, win)
		}
		w.mark(t, source, 10*(win+1))
	}
}

// P20.4: a source replays but its last mark, behind its samples: room for all of their cells is just enough.
func TestFlushesManyWindowsInLittleRoom(t *testing.T) {
	for _, most := range []int{1, 16} {
		for _, short := range []int{0, 1} {
			p := api.Plan{Sources: 2, Keepers: 1, Res: []int{10, 30}, Shards: 2, Hold: 64, Cells: 5*6 + 5*2 - short, Batch: most, Lease: 3}
			w := cluster(t, 5, p, 8)
			for win := range 6 {
				w.fill(t, win, 5)
			}
			if short == 0 {
				w.inTime(t, 0)
				continue
			}
			if w.alone(t, 0, 200); w.flushed() || w.tenders[0].x.Cells() != p.Cells {
				t.Errorf("%d cells are enough", p.Cells)
			}
		}
	}
}

// P20.4: where one source has no mark nothing is closed, and no batch is sent.
func TestNothingIsClosed(t *testing.T) {
	p := clusters()[1]
	w := cluster(t, 5, p, 8)
	w.emit(t, 0, 5, 1, 1)
	w.mark(t, 0, 50)
	w.mark(t, 2, 50)
	w.alone(t, 0, 1)
	for range 20 {
		w.tick(t, 0)
		w.still(t)
	}
	w.tenders[0].leads(t, 1)
	if len(w.batches) != 0 || w.tenders[0].x.Cells() != 2 {
		t.Error(w.batches, w.tenders[0].x.Cells())
	}
	w.mark(t, 1, 50)
	w.inTime(t, 0)
}
