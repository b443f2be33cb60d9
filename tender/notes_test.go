package tender_test

import (
	"slices"
	"testing"

	"estuary/api"
	"estuary/note"
)

// ordinary is a good plan, of which each call is a new one: its sources are 0 and 1, its tenders 2 and 3, its keepers 4 to 6, its sink 7; it has four lanes.
func ordinary() api.Plan {
	return api.Plan{Sources: 2, Keepers: 3, Res: []int{10, 30}, Shards: 2, Hold: 9, Cells: 40, Batch: 2, Lease: 3}
}

// single is a plan of one source, one keeper and one lane, whose windows are the times.
func single() api.Plan {
	return api.Plan{Sources: 1, Keepers: 1, Res: []int{1}, Shards: 1, Hold: 9, Cells: 40, Batch: 2, Lease: 3}
}

// widest is the plan of most nodes and lanes.
func widest() api.Plan {
	return api.Plan{Sources: 4, Keepers: 5, Res: []int{1, 10, 60}, Shards: 4, Hold: 64, Cells: 1024, Batch: 16, Lease: 20}
}

// first is the first tender of a plan in a life, which holds nothing.
func first(t *testing.T, life int, p api.Plan) *pair {
	t.Helper()
	return made(t, tenderNode(p, 0), life, p)
}

// promise is a keeper's promise to a pair.
func (o *pair) promise(keeper, key int, b, accepted api.Ballot, value ...int) api.Note {
	nums := append(asked(key, b), accepted.N, accepted.Node, accepted.Life)
	return api.Note{Kind: isPromise, From: keeperNode(o.m.p, keeper), To: o.m.node, Nums: append(nums, value...)}
}

// done is a keeper's acceptance.
func (o *pair) done(keeper, key int, b api.Ballot) api.Note {
	return api.Note{Kind: isDone, From: keeperNode(o.m.p, keeper), To: o.m.node, Nums: asked(key, b)}
}

// no is a keeper's refusal.
func (o *pair) no(keeper, key int, b, promised api.Ballot) api.Note {
	nums := append(asked(key, b), promised.N, promised.Node, promised.Life)
	return api.Note{Kind: isNo, From: keeperNode(o.m.p, keeper), To: o.m.node, Nums: nums}
}

// replay is a source's replay.
func (o *pair) replay(source, from, last int, cut []api.Place, ops ...api.Op) api.Note {
	nums := append([]int{from, last}, numbers(cut...)...)
	return api.Note{Kind: isReplay, From: source, To: o.m.node, Nums: nums, Ops: ops}
}

// ack is the sink's answer.
func (o *pair) ack(lane, epoch int, p api.Place) api.Note {
	return api.Note{Kind: isAck, From: sinkNode(o.m.p), To: o.m.node, Nums: []int{lane, epoch, p.Win, p.Key}}
}

// sampleOf and markOf are operations.
func sampleOf(seq, time, key int) api.Op {
	return api.Op{Seq: seq, Kind: isSample, Time: time, Key: key, Value: 100*key + time}
}

func markOf(seq, time int) api.Op { return api.Op{Seq: seq, Kind: isMark, Time: time} }

// feed hands operations of a source to a pair, as a replay that begins where it is to.
func (o *pair) feed(t *testing.T, source int, ops ...api.Op) {
	t.Helper()
	from := o.x.Next(source)
	for i := range ops {
		ops[i].Seq = from + i
	}
	o.handle(t, o.replay(source, from, from+len(ops)-1, starts(o.m.p), ops...))
}

// mark hands a mark of each source to a pair.
func (o *pair) mark(t *testing.T, time int) {
	t.Helper()
	for source := range o.m.p.Sources {
		o.feed(t, source, markOf(0, time))
	}
}

// of is the notes of a kind.
func of(list []api.Note, kind int) []api.Note {
	var some []api.Note
	for _, n := range list {
		if n.Kind == kind {
			some = append(some, n)
		}
	}
	return some
}

// prepared is the key and the ballot of the round that begins among notes, and whether one does.
func prepared(list []api.Note) (int, api.Ballot, bool) {
	some := of(list, isPrepare)
	if len(some) == 0 {
		return 0, api.Ballot{}, false
	}
	return some[0].Nums[0], ballotAt(some[0].Nums, 1), true
}

// begin ticks till a round of a key begins, and is its ballot. Rounds of the other key are lost on the way.
func (o *pair) begin(t *testing.T, key int) api.Ballot {
	t.Helper()
	for range 4 * roundTicks {
		k, b, ok := prepared(o.tick(t))
		switch {
		case ok && k == key:
			return b
		case ok:
			o.handle(t, o.no(0, k, b, api.Ballot{N: b.N, Node: b.Node + 1}))
		}
	}
	t.Fatalf("no round of key %d begins", key)
	return api.Ballot{}
}

// promised lets a majority promise, each with the value of the register, and is the value that is told then.
func (o *pair) promised(t *testing.T, key int, b api.Ballot, value ...int) []int {
	t.Helper()
	var accepted api.Ballot
	if len(value) > 0 {
		accepted.N = 1
	}
	var sent []api.Note
	for keeper := range o.m.p.Keepers/2 + 1 {
		if len(sent) > 0 {
			t.Fatalf("%d of %d keepers are enough", keeper, o.m.p.Keepers)
		}
		sent = o.handle(t, o.promise(keeper, key, b, accepted, value...))
	}
	if len(sent) != o.m.p.Keepers {
		t.Fatalf("told: %v", short(sent))
	}
	for i, n := range sent {
		want := append(asked(key, b), sent[0].Nums[4:]...)
		if n.Kind != isAccept || n.To != keeperNode(o.m.p, i) || !slices.Equal(n.Nums, want) {
			t.Fatalf("told: %v", short(sent))
		}
	}
	return sent[0].Nums[4:]
}

// accepted lets a majority accept.
func (o *pair) accepted(t *testing.T, key int, b api.Ballot) {
	t.Helper()
	for keeper := range o.m.p.Keepers/2 + 1 {
		if sent := o.handle(t, o.done(keeper, key, b)); len(sent) > 0 {
			t.Fatalf("sent: %v", short(sent))
		}
	}
}

// settle lets a round of a key begin and be done, while the register has a value, and is the value that it came to.
func (o *pair) settle(t *testing.T, key int, value ...int) []int {
	t.Helper()
	b := o.begin(t, key)
	told := o.promised(t, key, b, value...)
	o.accepted(t, key, b)
	return told
}

// lease is a lease's numbers.
func lease(epoch, holder, life, beat int) []int { return []int{epoch, holder, life, beat} }

// lead lets a pair lead in an epoch.
func (o *pair) lead(t *testing.T, epoch int) {
	t.Helper()
	o.settle(t, 0, lease(epoch, o.m.node, o.m.life, 0)...)
	o.leads(t, epoch)
}

// leads checks in which epoch a pair leads; in none, if that is 0.
func (o *pair) leads(t *testing.T, epoch int) {
	t.Helper()
	if got, ok := o.x.Leads(); got != epoch || ok != (epoch > 0) {
		t.Fatalf("Leads: %d, %v, want %d", got, ok, epoch)
	}
}

// based checks the lanes' bases.
func (o *pair) based(t *testing.T, want ...api.Place) {
	t.Helper()
	for lane, p := range want {
		if got := o.x.Base(lane); got != p {
			t.Fatalf("Base(%d): %v, want %v", lane, got, p)
		}
	}
}

// is checks that notes are just some others.
func is(t *testing.T, got []api.Note, want ...api.Note) {
	t.Helper()
	if !slices.EqualFunc(got, want, note.Same) {
		t.Fatalf("sent: %v, want %v", short(got), short(want))
	}
}

// needsOf is the notes to the sources: of each the next number; and places.
func (o *pair) needsOf(places []api.Place, next ...int) []api.Note {
	var list []api.Note
	for source, n := range next {
		list = append(list, api.Note{Kind: isNeed, From: o.m.node, To: source, Nums: append([]int{n}, numbers(places...)...)})
	}
	return list
}

// preparesOf is the notes to the keepers with which a round begins.
func (o *pair) preparesOf(key int, b api.Ballot) []api.Note {
	var list []api.Note
	for i := range o.m.p.Keepers {
		list = append(list, api.Note{Kind: isPrepare, From: o.m.node, To: keeperNode(o.m.p, i), Nums: asked(key, b)})
	}
	return list
}
