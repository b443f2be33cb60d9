package audit_test

import (
	"slices"
	"testing"

	"estuary/api"
	"estuary/audit"
	"estuary/basin"
	"estuary/gate"
	"estuary/outfall"
	"estuary/plan"
	"estuary/tape"
)

// frontiers is of each lane the place up to which a log has come.
func frontiers(p api.Plan, log []api.Batch) []api.Place {
	list := slices.Repeat([]api.Place{start()}, lanes(p))
	for _, b := range log {
		list[b.Lane] = b.To
	}
	return list
}

// expectOnce checks that a log that is right has each cell of streams that is closed and ahead of its lane's frontier, once, and nothing else; and is how many these are.
func expectOnce(t *testing.T, p api.Plan, streams [][]api.Op, log []api.Batch) int {
	t.Helper()
	had := map[api.Id][]api.Cell{}
	entries := 0
	for _, b := range log {
		for _, e := range b.Entries {
			id := api.Id{Lane: b.Lane, Place: e.Place}
			had[id] = append(had[id], e.Cell)
			entries++
		}
	}
	ids, err := audit.Ids(p, streams)
	if err != nil {
		t.Fatal(err)
	}
	to := frontiers(p, log)
	due := 0
	for _, id := range ids {
		closed, ok := audit.Closed(p, streams, id.Lane)
		if !ok || !ahead(id.Place, closed) || !ahead(id.Place, to[id.Lane]) {
			continue
		}
		due++
		c, err := audit.Cell(p, streams, id)
		if err != nil || len(had[id]) != 1 || had[id][0] != c {
			t.Fatalf("%v: %v is there %d times", short(log...), id, len(had[id]))
		}
	}
	if due != entries {
		t.Fatalf("%v has %d entries, want %d", short(log...), entries, due)
	}
	return due
}

// P21.2: whatever log is right, of those that are made right and those that came to be so by a change, has each cell once.
func TestEachCellOnce(t *testing.T) {
	made, changed, cells := 0, 0, 0
	for seed := range 600 {
		s := scramble(1000 + seed)
		p := s.anyPlan()
		streams := s.kept(p, 20+s.next(40))
		log := s.log(p, streams)
		if err := audit.Check(p, streams, log); err != nil {
			t.Fatalf("%v: %v", short(log...), err)
		}
		cells += expectOnce(t, p, streams, log)
		made++
		for range 4 {
			other := s.spoil(cloned(log))
			if audit.Check(p, streams, other) == nil {
				expectOnce(t, p, streams, other)
				changed++
			}
		}
	}
	if made < 100 || changed < 100 || cells < 100 {
		t.Error("too few:", made, changed, cells)
	}
}

// P21.2: a log that goes on as long as anything is closed has all closed cells, each once.
func TestAllClosedCells(t *testing.T) {
	for seed := range 60 {
		s := scramble(2000 + seed)
		p := s.anyPlan()
		streams := s.kept(p, 60)
		var log []api.Batch
		for lane := range lanes(p) {
			closed, ok := audit.Closed(p, streams, lane)
			if !ok || closed == start() {
				continue
			}
			var cuts []api.Place
			for _, e := range between(p, streams, lane, start(), closed) {
				cuts = append(cuts, behind(e.Place))
			}
			if len(cuts) == 0 || cuts[len(cuts)-1] != closed {
				cuts = append(cuts, closed)
			}
			log = append(log, chain(p, streams, 1+s.next(3), lane, cuts...)...)
		}
		if err := audit.Check(p, streams, log); err != nil {
			t.Fatalf("%v: %v", short(log...), err)
		}
		due := expectOnce(t, p, streams, log)
		all := 0
		for _, id := range idsBy(p, streams) {
			if closed, ok := closedBy(p, streams, id.Lane); ok && ahead(id.Place, closed) {
				all++
			}
		}
		if due != all {
			t.Fatalf("%d cells, want %d", due, all)
		}
	}
}

// reading is what was read at a place.
type reading struct {
	i, win, key int
	cell        api.Cell
}

// P21.2: what Read answers stays, whatever operations that keep to the marks come; and what isn't final yet comes to be so.
func TestWhatIsReadStays(t *testing.T) {
	for seed := range 40 {
		s := scramble(3000 + seed)
		p := s.anyPlan()
		list := s.sources(p.Sources)
		var told []reading
		waited := map[reading]int{}
		final := 0
		for range 60 {
			list[s.next(len(list))].grow(&s)
			streams := streamsOf(list)
			for _, r := range told {
				if c, err := audit.Read(p, streams, r.i, r.win, r.key); c != r.cell || err != nil {
					t.Fatalf("Read(%v, %v, %d, %d, %d): %v, %v, and %v before", p, streams, r.i, r.win, r.key, c, err, r.cell)
				}
			}
			r := reading{i: s.next(len(p.Res)), win: s.next(14) - 6, key: s.next(5) - 2}
			c, err := audit.Read(p, streams, r.i, r.win, r.key)
			switch {
			case err == errNotYet:
				waited[r]++
			case err != nil:
				t.Fatal(err)
			case waited[r] > 0:
				final++
				fallthrough
			default:
				r.cell = c
				told = append(told, r)
			}
		}
		// Behind marks of the greatest time everything is final that was waited for.
		for _, x := range list {
			x.ops = append(x.ops, mark(len(x.ops)+1, greatest))
		}
		for r := range waited {
			want := cellOf(dropsOf(p, streamsOf(list), named(r.i*p.Shards+shard(r.key, p.Shards), r.win, r.key)))
			// The greatest resolution's window 0 ends with the greatest time, and is closed by that mark; what is behind it isn't.
			c, err := audit.Read(p, streamsOf(list), r.i, r.win, r.key)
			if p.Res[r.i] == greatest && r.win >= 1 {
				if err != errNotYet {
					t.Fatal(c, err)
				}
			} else if c != want || err != nil {
				t.Fatalf("Read of %v: %v, %v, want %v", r, c, err, want)
			}
		}
	}
}

// P21.2: a log that is right stays so, whatever operations that keep to the marks come.
func TestARightLogStaysRight(t *testing.T) {
	for seed := range 60 {
		s := scramble(4000 + seed)
		p := s.anyPlan()
		list := s.sources(p.Sources)
		for range 40 {
			list[s.next(len(list))].grow(&s)
		}
		log := s.log(p, streamsOf(list))
		for range 15 {
			if err := audit.Check(p, streamsOf(list), log); err != nil {
				t.Fatalf("%v: %v", short(log...), err)
			}
			list[s.next(len(list))].grow(&s)
		}
	}
}

// sink is a sink of a plan that takes batches of basins.
func sink(t *testing.T, p api.Plan) *outfall.Outfall {
	t.Helper()
	o, err := outfall.Open(0, plan.Lanes(p), tape.New())
	if err != nil {
		t.Fatal(err)
	}
	return o
}

// full is a basin with all that is in streams.
func full(t *testing.T, p api.Plan, streams [][]api.Op) *basin.Basin {
	t.Helper()
	b, err := basin.New(p.Sources, p.Res, p.Shards, 1024)
	if err != nil {
		t.Fatal(err)
	}
	for source, ops := range streams {
		if err := b.Feed(source, 1, len(ops), slices.Repeat([]api.Place{start()}, lanes(p)), ops); err != nil {
			t.Fatal(err)
		}
	}
	return b
}

// flush sends a basin's next batches to a sink, in lanes without an order, so many.
func flush(s *scramble, p api.Plan, b *basin.Basin, o *outfall.Outfall, epoch, n int) {
	for range n {
		lane := s.next(lanes(p))
		if next, ok := gate.Next(b, epoch, lane, p.Batch); ok {
			o.Handle(gate.Note(1, 0, next))
			b.Raise(lane, o.Frontier(lane))
		}
	}
}

// P21.2: what the layers below make of streams is right: the log of a sink that takes the batches of basins, of one epoch after the other, and what is read there is what must be read.
func TestTheSinksLogIsRight(t *testing.T) {
	for seed := range 60 {
		s := scramble(5000 + seed)
		p := s.anyPlan()
		list := s.sources(p.Sources)
		o := sink(t, p)
		for epoch := 1; epoch <= 4; epoch++ {
			for range 15 {
				list[s.next(len(list))].grow(&s)
			}
			streams := streamsOf(list)
			b := full(t, p, streams)
			for lane := range lanes(p) {
				b.Raise(lane, o.Frontier(lane))
			}
			flush(&s, p, b, o, epoch, 20)
			if err := audit.Check(p, streams, o.Log()); err != nil {
				t.Fatalf("%v: %v", short(o.Log()...), err)
			}
			expectOnce(t, p, streams, o.Log())
			for range 20 {
				i, win, key := s.next(len(p.Res)), s.next(14)-6, s.next(5)-2
				lane, _ := plan.Lane(p, i, key)
				c, err := o.Read(lane, at(win, key))
				want, must := audit.Read(p, streams, i, win, key)
				if err == nil && (c != want || must != nil) {
					t.Fatalf("the sink reads %v, %v, and must %v, %v", c, err, want, must)
				}
			}
		}
	}
}
