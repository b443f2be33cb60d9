package tender_test

import (
	"slices"
	"testing"

	"estuary/api"
	"estuary/note"
)

// told is all that a tender tells of itself, as numbers.
func (o *pair) told() []int {
	epoch, leads := o.x.Leads()
	l, seen := o.x.Lease()
	cursor, ok := o.x.Cursor()
	nums := []int{epoch, one(leads), l.Epoch, l.Holder, l.Life, l.Beat, one(seen), one(ok), o.x.Cells()}
	nums = append(append(nums, numbers(cursor...)...), numbers(o.bases()...)...)
	for source := range o.m.p.Sources {
		nums = append(nums, o.x.Next(source))
	}
	return nums
}

// one is 1, if so, and else 0.
func one(ok bool) int {
	if ok {
		return 1
	}
	return 0
}

// acts tells whether a note does something: whether it is answered, changes what is told, or lets the next Tick send something else.
func (o *pair) acts(t *testing.T, n api.Note, twin *pair) bool {
	t.Helper()
	was := o.told()
	sent := o.handle(t, n)
	changed := len(sent) > 0 || !slices.Equal(was, o.told())
	return changed || !slices.EqualFunc(o.tick(t), twin.tick(t), note.Same)
}

// ready is a tender to which each of the notes of matter means something: its round of key 0, with the ballot {1, 2, 5}, is one keeper short of its majority.
func ready(t *testing.T, telling bool) *pair {
	t.Helper()
	o := first(t, 5, ordinary())
	_, b, _ := prepared(o.tick(t))
	if telling {
		o.promised(t, 0, b)
		o.handle(t, o.done(1, 0, b))
	} else {
		o.handle(t, o.promise(1, 0, b, api.Ballot{}))
	}
	return o
}

// matter is a note of each kind, of which those that tenders take do something to a ready one. Whose they are is left open.
func matter() []api.Note {
	b := []int{0, 1, 2, 5}
	sample := sampleOf(1, 5, 1)
	return []api.Note{
		{Kind: isPrepare, Nums: b},
		{Kind: isPromise, Nums: slices.Concat(b, []int{1, 0, 0}, lease(9, 2, 5, 0))},
		{Kind: isAccept, Nums: slices.Concat(b, lease(9, 2, 5, 0))},
		{Kind: isDone, Nums: b},
		{Kind: isNo, Nums: slices.Concat(b, []int{7, 0, 0})},
		{Kind: isNeed, Nums: append([]int{1}, numbers(some()...)...)},
		{Kind: isReplay, Nums: append([]int{1, 1}, numbers(some()...)...), Ops: []api.Op{sample}},
		{Kind: isBatch, Nums: []int{3, 1, least, least, 9, 9}, Entries: []api.Entry{{Place: at(3, 3), Cell: api.Cell{Count: 1}}}},
		{Kind: isAck, Nums: []int{1, 3, 9, 9}},
	}
}

// fits tells whether a tender of the ordinary plan takes a kind of note from a node.
func fits(kind, from int) bool {
	switch kind {
	case isPromise, isDone, isNo:
		return from == 4 || from == 5 || from == 6
	case isReplay:
		return from == 0 || from == 1
	case isAck:
		return from == 7
	}
	return false
}

// P20.1: each kind of note does something just where it is for the tender, and from a node of its plan of the right role.
func TestHandleByRole(t *testing.T) {
	for _, n := range matter() {
		for from := -1; from <= 9; from++ {
			for to := -1; to <= 8; to++ {
				n.From, n.To = from, to
				telling := n.Kind == isDone
				// Keeper 1 has answered already.
				want := to == 2 && fits(n.Kind, from) && (from != 5 || n.Kind == isNo)
				if got := ready(t, telling).acts(t, n, ready(t, telling)); got != want {
					t.Errorf("a note of kind %d from %d to %d: %v", n.Kind, from, to, got)
				}
			}
		}
	}
}

// P20.1: numbers that mean something in a note of one kind mean nothing in one of another kind, from whichever node.
func TestHandleByKind(t *testing.T) {
	p := single()
	acted := 0
	for kind := isPrepare; kind <= isAck; kind++ {
		for from := range sinkNode(p) + 1 {
			for count := 1; count <= 9; count++ {
				for bits := range 1 << min(count, 5) {
					nums := slices.Repeat([]int{1}, count)
					for i := range min(count, 5) {
						nums[i] = bits >> i & 1
					}
					o := first(t, 1, p)
					o.tick(t)
					was := o.told()
					sent := o.handle(t, api.Note{Kind: kind, From: from, To: 1, Nums: nums})
					if len(sent) == 0 && slices.Equal(was, o.told()) {
						continue
					}
					acted++
					if !(kind == isReplay && from == 0) && !(kind == isPromise && from == 3) && !(kind == isAck && from == 4) {
						t.Errorf("a note of kind %d from %d with %v does something", kind, from, nums)
					}
				}
			}
		}
	}
	if acted < 20 {
		t.Error(acted)
	}
}

// P20.1: nodes that no plan has, at the ends of what a note may tell and beyond.
func TestHandleFromFarNodes(t *testing.T) {
	for _, n := range matter() {
		for _, from := range []int{least, -1, 8, 999, 1000, 1 << 32, greatest} {
			n.From, n.To = from, 2
			if ready(t, n.Kind == isDone).acts(t, n, ready(t, n.Kind == isDone)) {
				t.Errorf("a note of kind %d from %d does something", n.Kind, from)
			}
		}
	}
}

// misshapen is notes that are nearly like one, none of which is in form.
func misshapen(n api.Note) []api.Note {
	entry := api.Entry{Place: at(1, 1), Cell: api.Cell{Count: 1}}
	list := slices.Repeat([]api.Note{n}, 9)
	list[0].Nums = nil
	list[1].Nums = n.Nums[:1]
	list[2].Nums = slices.Concat(n.Nums, make([]int, 64))
	list[3].Entries = slices.Repeat([]api.Entry{entry}, 17)
	list[4].Ops = slices.Repeat([]api.Op{sampleOf(1, 5, 1)}, 17)
	list[5].Ops = []api.Op{{Seq: 1, Kind: 3}}
	list[6].Kind = 0
	list[7].Kind = 10
	list[8].Kind = -n.Kind
	if n.Kind != isBatch {
		n.Entries = []api.Entry{entry}
		list = append(list, n)
		n.Entries = nil
	}
	if n.Kind != isReplay {
		n.Ops = []api.Op{sampleOf(1, 5, 1)}
		list = append(list, n)
		n.Ops = nil
	}
	for _, more := range []int{-1, 1} {
		odd := n
		odd.Nums = append(slices.Clone(n.Nums), 0)[:len(n.Nums)+more]
		list = append(list, odd)
	}
	return slices.DeleteFunc(list, func(n api.Note) bool { return note.Check(n) == nil })
}

// P20.1: notes that aren't in form do nothing, from whomever they are.
func TestHandleOfMisshapenNotes(t *testing.T) {
	count := 0
	for _, n := range matter() {
		for from := range 8 {
			n.From, n.To = from, 2
			for _, odd := range misshapen(n) {
				if ready(t, n.Kind == isDone).acts(t, odd, ready(t, n.Kind == isDone)) {
					t.Errorf("%v does something", odd)
				}
				count++
			}
		}
	}
	if count < 700 {
		t.Error(count)
	}
}

// P20.1: a keeper's answer for another key or another ballot does nothing to the round.
func TestHandleOfOtherRounds(t *testing.T) {
	for _, n := range matter() {
		if n.Kind != isPromise && n.Kind != isDone && n.Kind != isNo {
			continue
		}
		telling := n.Kind == isDone
		for i := range 4 {
			for _, by := range []int{-6, -1, 1, 2, 1 << 32, least} {
				odd := n
				odd.From, odd.To = 4, 2
				odd.Nums = slices.Clone(n.Nums)
				odd.Nums[i] += by
				if n.Kind == isNo {
					// A greater one is met all the same.
					odd.Nums[4] = 1
				}
				if ready(t, telling).acts(t, odd, ready(t, telling)) {
					t.Errorf("%v does something", odd)
				}
			}
		}
	}
}

// P20.1: while it asks, acceptances do nothing; while it tells, promises do nothing; a refusal ends both.
func TestHandleByStage(t *testing.T) {
	for _, n := range matter() {
		for _, telling := range []bool{false, true} {
			n.From, n.To = 4, 2
			want := n.Kind == isNo || n.Kind == isDone && telling || n.Kind == isPromise && !telling
			if got := ready(t, telling).acts(t, n, ready(t, telling)); got != want {
				t.Errorf("a note of kind %d, telling %v: %v", n.Kind, telling, got)
			}
		}
	}
}

// P20.1: of a round of key 0 the watch sees the value, of key 1 it is the cursor; not the other way round.
func TestWhatARoundCameTo(t *testing.T) {
	p := ordinary()
	p.Res, p.Shards = []int{10, 20}, 1
	value := lease(3, 2, 0, 0)
	o := first(t, 0, p)
	o.settle(t, 0, value...)
	if _, ok := o.x.Cursor(); ok {
		t.Error("a lease is the cursor")
	}
	o.leads(t, 3)
	o.based(t, start(), start())
	o = first(t, 0, p)
	o.settle(t, 1, value...)
	if _, ok := o.x.Lease(); ok {
		t.Error("a cursor is the lease")
	}
	o.based(t, at(3, 2), at(0, 0))
}

// P20.1: replays are fed to the basin, each of its own source, whatever that answers.
func TestReplays(t *testing.T) {
	cut := starts(ordinary())
	for _, c := range []struct {
		name             string
		from, last, next int
		cut              []api.Place
		ops              []api.Op
	}{
		{"of one", 1, 1, 2, cut, []api.Op{sampleOf(1, 5, 1)}},
		{"of none", 1, 0, 1, cut, nil},
		{"with none left", 1, 9, 10, cut, nil},
		{"with some left out", 1, 9, 10, cut, []api.Op{sampleOf(3, 5, 1), markOf(7, 5)}},
		{"of the most", 1, 16, 17, cut, sixteen()},
		{"from a number that isn't the next one", 2, 2, 1, cut, []api.Op{sampleOf(2, 5, 1)}},
		{"from a number that was taken", 0, 1, 1, cut, []api.Op{sampleOf(1, 5, 1)}},
		{"that goes back", 1, -1, 1, cut, nil},
		{"beyond its last number", 1, 1, 1, cut, []api.Op{sampleOf(1, 5, 1), sampleOf(2, 5, 1)}},
		{"that doesn't rise", 1, 9, 1, cut, []api.Op{sampleOf(2, 5, 1), sampleOf(2, 5, 1)}},
		{"with too few places", 1, 1, 1, cut[:3], []api.Op{sampleOf(1, 5, 1)}},
		{"with too many places", 1, 1, 1, append(starts(ordinary()), start()), []api.Op{sampleOf(1, 5, 1)}},
		{"with no place", 1, 1, 1, nil, []api.Op{sampleOf(1, 5, 1)}},
	} {
		for source := range 2 {
			o := first(t, 0, ordinary())
			is(t, o.handle(t, o.replay(source, c.from, c.last, c.cut, c.ops...)))
			want := []int{1, 1}
			want[source] = c.next
			if got := []int{o.x.Next(0), o.x.Next(1)}; !slices.Equal(got, want) {
				t.Errorf("a replay %s: next are %v, want %v", c.name, got, want)
			}
			is(t, of(o.tick(t), isNeed), o.needsOf(nil, want...)...)
		}
	}
}

// sixteen is samples of unlike keys.
func sixteen() []api.Op {
	var list []api.Op
	for i := range 16 {
		list = append(list, sampleOf(i+1, 5, i))
	}
	return list
}

// P20.1: what a source emits is joined under its own number.
func TestReplaysBySource(t *testing.T) {
	p := ordinary()
	p.Sources = 4
	o := first(t, 0, p)
	for source := range 4 {
		o.feed(t, source, sampleOf(0, 5, 2))
		c, ok := o.x.Cell(api.Id{Lane: 0, Place: at(0, 2)})
		if !ok || c.Count != source+1 || c.Last != (api.Last{Time: 5, Source: source, Seq: 1, Value: 205}) {
			t.Errorf("behind source %d: %v", source, c)
		}
	}
}

// P20.3: a cut raises all lanes, also where the replay brings nothing; one that isn't taken raises none.
func TestCutsRaise(t *testing.T) {
	o := first(t, 0, ordinary())
	cut := some()
	o.handle(t, o.replay(0, 2, 2, cut))
	o.handle(t, o.replay(0, 1, 1, cut[:3]))
	o.handle(t, o.replay(0, 1, -1, cut))
	o.based(t, starts(o.m.p)...)
	o.handle(t, o.replay(1, 1, 0, cut))
	o.based(t, cut...)
	o.handle(t, o.replay(0, 1, 1, []api.Place{at(3, 5), at(-4, 6), at(0, 0), at(0, 0)}))
	o.based(t, at(3, 5), at(-4, 7), at(greatest, greatest), at(0, 0))
}

// P20.3: an acknowledgement raises its lane, whatever its epoch is, whether the tender leads or not; one of no lane, or that goes back, raises none.
func TestAcknowledgementsRaise(t *testing.T) {
	for _, leads := range []bool{false, true} {
		o := first(t, 0, ordinary())
		if leads {
			o.lead(t, 4)
		}
		want := starts(o.m.p)
		for i, epoch := range []int{4, 0, 9, -1, least, greatest} {
			for lane := -2; lane <= 6; lane++ {
				p := at(i, 10*i+lane)
				is(t, o.handle(t, o.ack(lane, epoch, p)))
				if lane >= 0 && lane < 4 {
					want[lane] = p
				}
				o.based(t, want...)
				is(t, o.handle(t, o.ack(lane, epoch, at(i-1, greatest))))
				o.based(t, want...)
			}
			o.handle(t, o.ack(least, epoch, at(99, 99)))
			o.handle(t, o.ack(greatest, epoch, at(99, 99)))
			o.based(t, want...)
		}
	}
}

// P20.3: a cursor raises all lanes once its round is done; what is promised and told ahead of that raises none, nor does what it sends.
func TestCursorsRaise(t *testing.T) {
	o := first(t, 0, ordinary())
	b := o.begin(t, 1)
	o.promised(t, 1, b, numbers(some()...)...)
	o.handle(t, o.done(0, 1, b))
	o.based(t, starts(o.m.p)...)
	o.handle(t, o.done(2, 1, b))
	o.based(t, some()...)
	o.lead(t, 7)
	for source := range 2 {
		o.feed(t, source, sampleOf(0, 65, 1), markOf(0, 90))
	}
	for range 12 {
		if len(of(o.tick(t), isBatch)) == 0 {
			t.Fatal("no batch is sent")
		}
		o.based(t, some()...)
	}
}

// P20.3: a sample that finds no room waits, with all behind it, till there is room; there are never more cells than the plan says.
func TestRoom(t *testing.T) {
	for cells := 1; cells <= 18; cells++ {
		p := single()
		p.Cells = cells
		o := first(t, 0, p)
		var ops []api.Op
		for i := range 15 {
			ops = append(ops, sampleOf(i+1, i, 1))
		}
		ops = append(ops, markOf(16, 15))
		filled := func(next, held int) {
			t.Helper()
			if o.x.Next(0) != next || o.x.Cells() != held {
				t.Fatalf("room for %d: %d cells, the next one is %d; want %d, %d", cells, o.x.Cells(), o.x.Next(0), held, next)
			}
			is(t, of(o.tick(t), isNeed), o.needsOf(nil, next)...)
		}
		o.handle(t, o.replay(0, 1, 16, starts(p), ops...))
		if cells >= 15 {
			filled(17, 15)
			continue
		}
		filled(cells+1, cells)
		// The same again is refused, since there is no room still; a mark behind isn't taken either.
		o.handle(t, o.replay(0, cells+1, 16, starts(p), ops[cells:]...))
		filled(cells+1, cells)
		gone := min(cells, 3)
		o.handle(t, o.ack(0, 1, upTo(3)))
		filled(cells+1, cells-gone)
		o.handle(t, o.replay(0, cells+1, 16, starts(p), ops[cells:]...))
		switch {
		case cells < 3:
			// Those that are ahead of the base need no room.
			filled(4+cells, cells)
		case cells+gone < 15:
			filled(cells+gone+1, cells)
		default:
			filled(17, 12)
		}
	}
}
