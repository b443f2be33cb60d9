package audit_test

import (
	"slices"
	"testing"

	"estuary/api"
	"estuary/audit"
)

// scribble writes over a list, its spare room included.
func scribble[T any](list []T, odd T) {
	whole := list[:cap(list)]
	for i := range whole {
		whole[i] = odd
	}
}

// roomy is a list between other things, which stand in its spare room too, and all of them.
func roomy[T any](list []T, odd T) (part, whole []T) {
	whole = slices.Concat([]T{odd}, list, []T{odd, odd, odd})
	return whole[1 : 1+len(list)], whole
}

// handed is a plan, streams and a log in rooms of their own, each with all that stands in the room.
type handed struct {
	p       api.Plan
	streams [][]api.Op
	log     []api.Batch

	res     []int
	ops     [][]api.Op    // the rooms of the streams
	entries [][]api.Entry // the rooms of the batches' entries
	rows    [][]api.Op    // the room of the list of streams
	batches []api.Batch   // the room of the log
}

// handOut lays a plan, streams and a log into rooms.
func handOut(p api.Plan, streams [][]api.Op, log []api.Batch) handed {
	h := handed{p: p}
	h.p.Res, h.res = roomy(p.Res, -77)
	for _, ops := range streams {
		part, whole := roomy(ops, api.Op{Seq: -7, Kind: 77, Time: -7777, Key: -7, Value: -7})
		h.streams, h.ops = append(h.streams, part), append(h.ops, whole)
	}
	h.streams, h.rows = roomy(h.streams, []api.Op{{Kind: 77}})
	for _, b := range log {
		part, whole := roomy(b.Entries, api.Entry{Place: at(-77, -77), Cell: api.Cell{Count: -77}})
		b.Entries = part
		h.log, h.entries = append(h.log, b), append(h.entries, whole)
	}
	h.log, h.batches = roomy(h.log, api.Batch{Epoch: -77})
	return h
}

// copied is all that stands in the rooms, in other ones.
func (h handed) copied() handed {
	x := handed{p: h.p, res: slices.Clone(h.res), batches: cloned(h.batches)}
	for _, ops := range h.ops {
		x.ops = append(x.ops, slices.Clone(ops))
	}
	for _, list := range h.entries {
		x.entries = append(x.entries, slices.Clone(list))
	}
	for _, ops := range h.rows {
		x.rows = append(x.rows, slices.Clone(ops))
	}
	return x
}

// same tells whether the same stands in the rooms of both.
func (h handed) same(x handed) bool {
	alike := func(a, b api.Batch) bool {
		return a.Epoch == b.Epoch && a.Lane == b.Lane && a.From == b.From && a.To == b.To && slices.Equal(a.Entries, b.Entries)
	}
	return slices.Equal(h.res, x.res) && slices.EqualFunc(h.ops, x.ops, slices.Equal) && slices.EqualFunc(h.rows, x.rows, slices.Equal) &&
		slices.EqualFunc(h.entries, x.entries, slices.Equal) && slices.EqualFunc(h.batches, x.batches, alike)
}

// callAll makes each call.
func callAll(p api.Plan, streams [][]api.Op, log []api.Batch) {
	ids, _ := audit.Ids(p, streams)
	for _, id := range append(ids, named(-1, 0, 0)) {
		audit.Cell(p, streams, id)
		audit.Read(p, streams, 0, id.Win, id.Key)
	}
	for lane := -1; lane < 5; lane++ {
		audit.Closed(p, streams, lane)
	}
	audit.Check(p, streams, log)
	audit.Rounds(p, streams)
}

// logs is logs of spread's streams, right ones and others.
func logs(p api.Plan, streams [][]api.Op) [][]api.Batch {
	right := slices.Concat(chain(p, streams, 1, 1, upTo(-1), upTo(0), upTo(4)), chain(p, streams, 2, 0, upTo(0), upTo(4)))
	list := [][]api.Batch{nil, right, right[1:]}
	for i := range right {
		for _, change := range []func(b *api.Batch){
			func(b *api.Batch) { slices.Reverse(b.Entries) },
			func(b *api.Batch) { b.Lane = 9 },
			func(b *api.Batch) { b.To = end() },
			func(b *api.Batch) { b.Entries = nil },
		} {
			log := cloned(right)
			change(&log[i])
			list = append(list, log)
		}
	}
	return list
}

// P21.1, rule 5: what is handed in isn't changed, its spare room included, whatever is answered.
func TestNothingIsChanged(t *testing.T) {
	p, streams := spread()
	bad := p
	bad.Shards = 0
	odd := [][]api.Op{streams[0], append(slices.Clone(streams[1]), api.Op{Kind: 5})}
	for _, log := range logs(p, streams) {
		for _, h := range []handed{handOut(p, streams, log), handOut(bad, streams, log), handOut(p, streams[:1], log), handOut(p, odd, log)} {
			before := h.copied()
			callAll(h.p, h.streams, h.log)
			if !h.same(before) {
				t.Fatalf("something is changed: %v", short(log...))
			}
		}
	}
}

// P21.1, rule 5: the spare room of what is handed in is none of it: it isn't read either.
func TestSpareRoomIsNotRead(t *testing.T) {
	p, streams := spread()
	for _, log := range logs(p, streams) {
		h := handOut(p, streams, log)
		expectAll(t, h.p, h.streams)
		if got, want := audit.Check(h.p, h.streams, h.log), checkBy(p, streams, log); got != want {
			t.Errorf("Check(%v): %v, want %v", short(log...), got, want)
		}
	}
}

// P21.1, rule 5: what is handed in isn't kept: written over, it changes no answer, and the next call takes what stands there then.
func TestNothingIsKept(t *testing.T) {
	p, streams := spread()
	log := logs(p, streams)[1]
	h := handOut(p, streams, log)
	ids, _ := audit.Ids(h.p, h.streams)
	want := slices.Clone(ids)
	c, _ := audit.Cell(h.p, h.streams, ids[0])
	whole := c
	if err := audit.Check(h.p, h.streams, h.log); err != nil {
		t.Fatal(err)
	}
	for _, ops := range h.streams {
		scribble(ops, sample(1, 77, 7, 7))
	}
	scribble(h.p.Res, 3)
	if !slices.Equal(ids, want) || c != whole {
		t.Error("an answer is changed")
	}
	expectAll(t, h.p, h.streams)
	expectCheck(t, h.p, h.streams, h.log)
	// The same of streams in other memory.
	expectAll(t, p, streams)
	if err := audit.Check(p, streams, log); err != nil {
		t.Error(err)
	}
}

// P21.1, rule 5: answers are new memory: names that are written over change neither the next answer nor what was handed in.
func TestAnswersAreNewMemory(t *testing.T) {
	p, streams := spread()
	h := handOut(p, streams, nil)
	before := h.copied()
	want := idsBy(p, streams)
	first, _ := audit.Ids(h.p, h.streams)
	second, _ := audit.Ids(h.p, h.streams)
	scribble(first, named(-77, -77, -77))
	if !slices.Equal(second, want) || !h.same(before) {
		t.Errorf("%v shares memory", second)
	}
	scribble(second, named(-7, -7, -7))
	if third, err := audit.Ids(h.p, h.streams); !slices.Equal(third, want) || err != nil {
		t.Error(third, err)
	}
}
