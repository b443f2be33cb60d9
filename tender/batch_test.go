package tender_test

import (
	"slices"
	"testing"

	"estuary/api"
	"estuary/cell"
)

// sent is the batches of the next Tick, each checked for its nodes and its numbers.
func (o *pair) sent(t *testing.T) []api.Batch {
	t.Helper()
	var list []api.Batch
	for _, n := range of(o.tick(t), isBatch) {
		if n.From != o.m.node || n.To != sinkNode(o.m.p) || len(n.Nums) != 6 || len(n.Ops) > 0 {
			t.Fatalf("sent: %v", short([]api.Note{n}))
		}
		places := placed(n.Nums[2:])
		list = append(list, api.Batch{Epoch: n.Nums[0], Lane: n.Nums[1], From: places[0], To: places[1], Entries: n.Entries})
	}
	return list
}

// epochs is the epochs of the next Tick's batches.
func (o *pair) epochs(t *testing.T) []int {
	t.Helper()
	var list []int
	for _, b := range o.sent(t) {
		list = append(list, b.Epoch)
	}
	return list
}

// fed is a tender of the ordinary plan whose lanes of shard 1 have a cell each that is closed, and which doesn't lead.
func fed(t *testing.T, life int) *pair {
	t.Helper()
	o := first(t, life, ordinary())
	o.feed(t, 0, sampleOf(0, 5, 1))
	o.mark(t, 60)
	return o
}

// P20.2: batches are sent only while it leads, in the epoch of its lease; not under another one's lease, nor under that of another life.
func TestBatchesWhileItLeads(t *testing.T) {
	o := fed(t, 5)
	none := func(value ...int) {
		t.Helper()
		o.settle(t, 0, value...)
		o.leads(t, 0)
		if list := o.epochs(t); len(list) != 0 {
			t.Fatalf("under %v: %v", value, list)
		}
	}
	all := func(epoch, beat int) {
		t.Helper()
		o.settle(t, 0, lease(epoch, 2, 5, beat)...)
		o.leads(t, epoch)
		if list := o.epochs(t); !slices.Equal(list, []int{epoch, epoch, epoch, epoch}) {
			t.Fatalf("in epoch %d: %v", epoch, list)
		}
	}
	if list := o.epochs(t); len(list) != 0 {
		t.Fatal(list)
	}
	none(lease(1, 3, 5, 0)...)
	all(2, 0)
	none(lease(3, 3, 5, 0)...)
	all(4, 7)
	none(lease(5, 2, 4, 7)...)
	none(lease(6, 2, 6, 7)...)
	none(lease(0, 2, 5, 0)...)
	all(greatest, 0)
	none(2, 2, 5)
	all(7, 0)
}

// P20.2: while another lease isn't known of, it leads on in its own, whatever becomes of its rounds.
func TestBatchesWhileRoundsAreLost(t *testing.T) {
	o := fed(t, 0)
	o.lead(t, 3)
	for i := range 60 {
		list := o.tick(t)
		for _, n := range of(list, isBatch) {
			if n.Nums[0] != 3 {
				t.Fatal(short(list))
			}
		}
		if len(of(list, isBatch)) != 4 {
			t.Fatal(short(list))
		}
		key, b, ok := prepared(list)
		switch {
		case !ok:
		case i%2 == 0:
			o.handle(t, o.no(0, key, b, api.Ballot{N: b.N + 3}))
		default:
			o.promised(t, key, b, lease(9, 3, 0, 0)...)
		}
		o.leads(t, 3)
	}
}

// P20.2: a lease that is taken by a swap leads once that is done, and not ahead of it.
func TestBatchesBehindTheSwap(t *testing.T) {
	o := fed(t, 5)
	o.settle(t, 0)
	b := o.begin(t, 0)
	if told := o.promised(t, 0, b); !slices.Equal(told, lease(1, 2, 5, 0)) {
		t.Fatal(told)
	}
	if list := o.epochs(t); len(list) != 0 {
		t.Fatal(list)
	}
	o.accepted(t, 0, b)
	o.leads(t, 1)
	if list := o.epochs(t); !slices.Equal(list, []int{1, 1, 1, 1}) {
		t.Fatal(list)
	}
}

// P20.1: a batch has at most as many entries as the plan's Batch says; acknowledged, the next one goes on behind it, and else the same is sent again.
func TestBatchesOfThePlan(t *testing.T) {
	for most := 1; most <= 16; most++ {
		p := single()
		p.Batch = most
		o := first(t, 0, p)
		o.lead(t, 8)
		var want []api.Entry
		for i := range 35 {
			op := sampleOf(i+1, i/3, i)
			o.feed(t, 0, op)
			want = append(want, api.Entry{Place: at(op.Time, op.Key), Cell: cell.One(0, op)})
		}
		o.mark(t, 12)
		from := start()
		var got []api.Entry
		for len(got) < 35 {
			list := o.sent(t)
			again := o.sent(t)
			if len(list) != 1 || list[0].Epoch != 8 || list[0].Lane != 0 || list[0].From != from || len(list[0].Entries) != min(most, 35-len(got)) {
				t.Fatalf("at most %d: %v", most, list)
			}
			if len(again) != 1 || again[0].To != list[0].To || !slices.Equal(again[0].Entries, list[0].Entries) {
				t.Fatalf("at most %d: again %v", most, again)
			}
			got = append(got, list[0].Entries...)
			from = list[0].To
			o.handle(t, o.ack(0, 8, from))
		}
		if !slices.Equal(got, want) || from != upTo(12) {
			t.Fatalf("at most %d: %v up to %v", most, got, from)
		}
		if list := o.sent(t); len(list) != 0 {
			t.Fatalf("at most %d: %v", most, list)
		}
	}
}

// P20.1: only lanes that are closed beyond their bases have a batch.
func TestBatchesByLane(t *testing.T) {
	o := first(t, 0, ordinary())
	o.lead(t, 2)
	lanesOf := func(want ...int) {
		t.Helper()
		var got []int
		for _, b := range o.sent(t) {
			got = append(got, b.Lane)
		}
		if !slices.Equal(got, want) {
			t.Fatalf("lanes %v, want %v", got, want)
		}
	}
	lanesOf()
	o.feed(t, 0, sampleOf(0, 5, 1), markOf(0, 40))
	lanesOf()
	o.feed(t, 1, markOf(0, 40))
	lanesOf(0, 1, 2, 3)
	o.handle(t, o.ack(1, 1, upTo(4)))
	lanesOf(0, 2, 3)
	o.handle(t, o.ack(2, 1, at(1, least)))
	o.handle(t, o.ack(3, 1, at(0, greatest)))
	lanesOf(0, 3)
	o.handle(t, o.ack(0, 1, upTo(5)))
	o.handle(t, o.ack(3, 1, upTo(1)))
	lanesOf()
	o.mark(t, 50)
	lanesOf(1)
	o.mark(t, 60)
	lanesOf(0, 1, 2, 3)
}
