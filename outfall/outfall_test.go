package outfall_test

import (
	"bytes"
	"slices"
	"testing"

	"estuary/api"
	"estuary/cell"
	"estuary/frame"
	"estuary/note"
	"estuary/outfall"
	"estuary/tape"
)

// P18.1: the document's numbers are those of package api.
func TestNumbers(t *testing.T) {
	if api.OpSample != isSample || api.OpMark != isMark || api.NBatch != isBatch || api.NAck != isAck {
		t.Error("the kinds")
	}
	if api.ErrRange != errRange || api.ErrForm != errForm || api.ErrDown != errDown || api.ErrDisk != errDisk || api.ErrNotYet != errNotYet {
		t.Error("the errors")
	}
	if api.MaxLanes != mostLanes || api.MaxEntries != mostEntries {
		t.Error("the limits")
	}
}

// P18.1: the chapter's example.
func TestExample(t *testing.T) {
	o, err := outfall.Open(self, 1, tape.New())
	if err != nil {
		t.Fatal(err)
	}
	one := batch(2, 0, start(), at(1, 0), at(0, 5))
	expect := func(b api.Batch) {
		t.Helper()
		got, want := o.Handle(sent(b)), acked(0, 2, at(1, 0))
		if len(got) != 1 || !note.Same(got[0], want) {
			t.Errorf("%v, want %v", got, want)
		}
		if log := o.Log(); len(log) != 1 || !equal(log[0], one) {
			t.Error(short(log...))
		}
	}
	expect(one)
	expect(one)
	expect(batch(1, 0, at(1, 0), at(2, 0)))
	if c, err := o.Read(0, at(0, 5)); c != one.Entries[0].Cell || err != nil {
		t.Error(c, err)
	}
	if c, err := o.Read(0, at(0, 6)); c != cell.Unit() || err != nil {
		t.Error(c, err)
	}
	if c, err := o.Read(0, at(1, 0)); c != cell.Unit() || err != errNotYet {
		t.Error(c, err)
	}
}

// P18.1: a new sink: least frontiers, no epochs, nothing that may be read, an empty log.
func TestNew(t *testing.T) {
	for lanes := 1; lanes <= mostLanes; lanes++ {
		p := both(t, lanes)
		for lane := range lanes {
			if got := p.o.Frontier(lane); got != start() || p.o.Epoch(lane) != 0 {
				t.Errorf("lane %d of %d: %v, %d", lane, lanes, got, p.o.Epoch(lane))
			}
			for _, at := range []api.Place{start(), at(least, least+1), at(0, 0), end()} {
				if c, err := p.o.Read(lane, at); c != (api.Cell{}) || err != errNotYet {
					t.Errorf("Read(%d, %v): %v, %v", lane, at, c, err)
				}
			}
		}
		if log := p.o.Log(); len(log) != 0 {
			t.Error(log)
		}
	}
}

// P18.1: the bytes of a row, written out: they don't tell who sent the batch, nor to whom.
func TestRowsAreWrittenAsTold(t *testing.T) {
	x := tape.New()
	o, err := outfall.Open(self, 2, x)
	if err != nil {
		t.Fatal(err)
	}
	first := api.Batch{Epoch: 2, Lane: 1, From: start(), To: at(1, -1)}
	c := cell.One(2, api.Op{Seq: 3, Time: 4, Value: -5})
	second := api.Batch{Epoch: 300, Lane: 1, From: at(1, -1), To: at(1, 9), Entries: []api.Entry{{Place: at(1, 8), Cell: c}}}
	o.Handle(sent(first))
	o.Handle(sent(second))
	ones := bytes.Repeat([]byte{255}, 8)
	want := [][]byte{
		slices.Concat([]byte{1, 16, 0, 0, 1, 12, 1, 4, 1, 2, 8}, ones, []byte{8}, ones, []byte{1, 2, 1, 1, 0, 0}),
		{1, 16, 0, 0, 1, 12, 2, 88, 2, 1, 2, 1, 2, 1, 1, 1, 2, 1, 18, 0, 1, 2,
			1, 2, 1, 16, 1, 2, 1, 1, 1, 9, 1, 9, 1, 9, 1, 8, 1, 4, 1, 6, 1, 9, 1, 2, 1, 6, 1, 2},
	}
	got, size := frame.Split(x.Read())
	if size != len(x.Read()) || x.Sure() != size || !slices.EqualFunc(got, want, bytes.Equal) {
		t.Errorf("rows %v, want %v", got, want)
	}
}

// P18.1: Open at the numbers of nodes, whose notes are answered then, and whose answers come from it.
func TestOpenByNode(t *testing.T) {
	for _, node := range []int{0, 1, 2, 500, 998, 999} {
		p := &pair{node: node, lanes: 1, x: tape.New(), y: tape.New()}
		if err := p.reopen(t); err != nil {
			t.Fatalf("Open of node %d: %v", node, err)
		}
		n := sent(batch(1, 0, start(), upTo(0)))
		n.To = node
		if got := p.handle(t, n); len(got) != 1 || got[0].From != node || got[0].To != sender {
			t.Errorf("sink %d answers %v", node, got)
		}
		for _, n.To = range []int{node - 1, node + 1, -node - 1, node + 1<<32} {
			if got := p.handle(t, n); len(got) != 0 {
				t.Errorf("sink %d answers for %d: %v", node, n.To, got)
			}
		}
	}
	for _, node := range []int{-1, 1000, 1001, -2, -999, -1000, 1 << 32, 1<<32 + 5, least, least + 5, greatest} {
		p := &pair{node: node, lanes: 1, x: tape.New(), y: tape.New()}
		if err := p.reopen(t); err != errForm {
			t.Errorf("Open of node %d: %v", node, err)
		}
	}
}

// P18.1: Open at numbers of lanes: each of them is there, and no other one.
func TestOpenByLanes(t *testing.T) {
	for lanes := 1; lanes <= mostLanes; lanes++ {
		p := both(t, lanes)
		for lane := range lanes {
			p.send(t, batch(3+lane, lane, start(), upTo(lane), at(lane-1, 7)), 3+lane, upTo(lane))
		}
		for _, lane := range []int{lanes, lanes + 1, mostLanes, 1 << 32, greatest, -1, -lanes, least} {
			if got := p.handle(t, sent(batch(9, lane, start(), upTo(0)))); len(got) != 0 {
				t.Errorf("lane %d of %d: %v", lane, lanes, got)
			}
			if p.o.Frontier(lane) != (api.Place{}) || p.o.Epoch(lane) != 0 {
				t.Errorf("lane %d of %d: %v, %d", lane, lanes, p.o.Frontier(lane), p.o.Epoch(lane))
			}
			for _, at := range []api.Place{start(), at(0, 0), at(lane-1, 7), end()} {
				if c, err := p.o.Read(lane, at); c != (api.Cell{}) || err != errRange {
					t.Errorf("Read(%d, %v) of %d lanes: %v, %v", lane, at, lanes, c, err)
				}
			}
		}
		if err := p.reopen(t); err != nil || len(p.o.Log()) != lanes {
			t.Error(err)
		}
	}
	for _, lanes := range []int{0, 13, -1, 14, -12, 100, 1 << 32, 1<<32 + 5, least, least + 5, greatest} {
		if err := on(t, lanes).reopen(t); err != errForm {
			t.Errorf("Open of %d lanes: %v", lanes, err)
		}
	}
}

// torn is a tape with two batches, and the first bytes of a third one's frame behind them.
func torn(t *testing.T, keep int) *tape.Tape {
	t.Helper()
	list := rows(chain(0, 3)...)
	x := laid(t, list[:2]...)
	framed, err := frame.Wrap(list[2])
	if err != nil || keep >= len(framed) {
		t.Fatal(err, keep)
	}
	if err := x.Append(framed[:keep]); err != nil {
		t.Fatal(err)
	}
	return x
}

// down lets the power go.
func down(x *tape.Tape) {
	x.Arm(0)
	x.Sync()
}

// P18.1: wrong numbers are told ahead of what is wrong with the tape, which isn't touched then.
func TestOpenTellsNumbersFirst(t *testing.T) {
	for _, c := range [][2]int{{-1, 1}, {1000, 1}, {self, 0}, {self, 13}, {-1, 0}} {
		if o, err := outfall.Open(c[0], c[1], nil); o != nil || err != errForm {
			t.Errorf("Open of %v and nil: %v, %v", c, o, err)
		}
		p := &pair{node: c[0], lanes: c[1], x: torn(t, 9), y: torn(t, 9)}
		was := p.x.Read()
		for _, do := range []func(x *tape.Tape){
			func(x *tape.Tape) {},
			func(x *tape.Tape) { x.Fail(0) },
			func(x *tape.Tape) { x.Arm(0) },
			down,
		} {
			p.each(do)
			if err := p.reopen(t); err != errForm || !bytes.Equal(p.x.Read(), was) {
				t.Errorf("Open of %v: %v", c, err)
			}
		}
	}
}

// P18.1: Open of a nil tape, of one whose power is gone, of a new one and of torn ones.
func TestOpenByTape(t *testing.T) {
	if o, err := outfall.Open(self, 1, nil); o != nil || err != errDown {
		t.Errorf("of nil: %v, %v", o, err)
	}
	for _, list := range [][][]byte{nil, rows(chain(0, 2)...), {{9}}} {
		p := on(t, 1, list...)
		p.each(down)
		if err := p.reopen(t); err != errDown {
			t.Errorf("of one that is down: %v", err)
		}
	}
	framed, err := frame.Wrap(row(chain(0, 3)[2]))
	if err != nil {
		t.Fatal(err)
	}
	for keep := range framed {
		p := &pair{node: self, lanes: 1, x: torn(t, keep), y: torn(t, keep)}
		if err := p.reopen(t); err != nil || len(p.o.Log()) != 2 || p.o.Frontier(0) != upTo(1) {
			t.Errorf("of %d bytes more: %v, %v", keep, err, short(p.o.Log()...))
		}
		p.send(t, batch(4, 0, upTo(1), upTo(9), at(3, 3)), 4, upTo(9))
		if err := p.reopen(t); err != nil || len(p.o.Log()) != 3 {
			t.Errorf("behind a batch more: %v, %v", err, short(p.o.Log()...))
		}
	}
}

// P18.1: where the tape is torn and refuses, or its power goes, Open answers that, whatever the rows are; it is opened later.
func TestOpenWhereTheTapeRefuses(t *testing.T) {
	p := &pair{node: self, lanes: 1, x: torn(t, 9), y: torn(t, 9)}
	p.each(func(x *tape.Tape) { x.Fail(0) })
	if err := p.reopen(t); err != errDisk {
		t.Error(err)
	}
	p.each(func(x *tape.Tape) { x.Arm(0) })
	for range 2 {
		if err := p.reopen(t); err != errDown {
			t.Error(err)
		}
	}
	p.each(func(x *tape.Tape) { x.Crash(greatest) })
	if err := p.reopen(t); err != nil || len(p.o.Log()) != 2 {
		t.Error(err)
	}
	// A tape that isn't torn isn't written at all.
	p.each(func(x *tape.Tape) { x.Arm(0); x.Fail(0) })
	if err := p.reopen(t); err != nil || len(p.o.Log()) != 2 {
		t.Error(err)
	}
	for do, want := range map[int]error{0: errDisk, 1: errDown, 2: errForm} {
		p := on(t, 1, []byte{9})
		p.each(func(x *tape.Tape) {
			x.Append([]byte{1, 2, 3})
			switch do {
			case 0:
				x.Fail(0)
			case 1:
				x.Arm(0)
			}
		})
		if err := p.reopen(t); err != want {
			t.Errorf("of wrong rows on a torn tape: %v, want %v", err, want)
		}
	}
}

// P18.1: Open of batches that join, in one lane and several ones, without entries and with as many as may be, at the numbers' edges.
func TestOpenOfBatches(t *testing.T) {
	full := api.Batch{Epoch: 1, From: start(), To: at(0, 16), Entries: counted(16)}
	for _, list := range [][]api.Batch{
		nil,
		{full},
		chain(0, 1),
		chain(0, 40),
		chain(2, 3),
		slices.Concat(chain(0, 5), chain(2, 3), chain(1, 4)),
		slices.Concat(chain(2, 5), chain(1, 3), chain(0, 4)),
		{chain(1, 2)[0], chain(0, 2)[0], chain(1, 2)[1], chain(0, 2)[1]},
		{full, batch(1, 0, at(0, 16), at(0, 17), at(0, 16)), batch(7, 0, at(0, 17), end(), at(0, 17), at(greatest, greatest-1))},
		{batch(greatest, 0, start(), at(least, least+1), start()), batch(greatest, 0, at(least, least+1), end())},
		{batch(1, 0, start(), end())},
		// Lanes have epochs of their own.
		{batch(9, 0, start(), upTo(0)), batch(1, 1, start(), upTo(0)), batch(9, 0, upTo(0), upTo(1)), batch(2, 1, upTo(0), upTo(1))},
	} {
		p := both(t, 3, rows(list...)...)
		if got := p.o.Log(); !slices.EqualFunc(got, list, equal) {
			t.Errorf("the log is %v, want %v", short(got...), short(list...))
		}
		for lane := range 3 {
			for _, b := range list {
				p.expectReads(t, lane, b)
			}
			p.handle(t, sent(batch(greatest, lane, p.o.Frontier(lane), end())))
		}
		if err := p.reopen(t); err != nil {
			t.Error(err)
		}
	}
}

// wrongBatches is batches that aren't in form.
func wrongBatches() []api.Batch {
	list := []api.Batch{
		{},
		batch(0, 0, start(), upTo(1)),
		batch(-1, 0, start(), upTo(1)),
		batch(least, 0, start(), upTo(1)),
		batch(1, -1, start(), upTo(1)),
		batch(1, least, start(), upTo(1)),
		batch(1, 0, at(0, 1), at(0, 0)),
		batch(1, 0, upTo(0), start()),
		batch(1, 0, start(), upTo(1), at(1, least)),
		batch(1, 0, start(), upTo(1), at(1, 0)),
		batch(1, 0, start(), at(1, 5), at(0, 0), at(1, 5)),
		batch(1, 0, start(), upTo(1), at(0, 2), at(0, 1)),
		batch(1, 0, start(), upTo(1), at(0, 2), at(0, 2)),
		batch(1, 0, start(), upTo(1), at(0, 0), at(-1, 0)),
		{Epoch: 1, From: start(), To: upTo(1), Entries: []api.Entry{{Place: at(0, 3)}}},
		{Epoch: 1, From: start(), To: upTo(1), Entries: append(counted(2), api.Entry{Place: at(0, 3)})},
		{Epoch: 1, From: start(), To: upTo(1), Entries: counted(17)},
	}
	return append(list, batch(1, 0, start(), start(), start()))
}

// strays is batches in form that a new sink of three lanes doesn't accept.
func strays() []api.Batch {
	return []api.Batch{
		// Empty.
		batch(1, 0, start(), start()), batch(1, 2, start(), start()), batch(1, 0, upTo(1), upTo(1)), batch(1, 0, end(), end()),
		// Of no such lane.
		batch(1, 3, start(), upTo(1)), batch(1, 4, start(), upTo(1)), batch(1, 12, start(), upTo(1)),
		batch(1, 1<<32, start(), upTo(1)), batch(1, greatest, start(), upTo(1)),
		// That don't join.
		batch(1, 0, at(least, least+1), upTo(1)), batch(1, 1, at(0, 0), upTo(1)), batch(1, 2, upTo(0), upTo(1), at(0, 5)),
	}
}

// wrongRows is rows that are no batch's.
func wrongRows() [][]byte {
	good := chain(0, 1)[0]
	n := sent(good)
	n.From, n.To = 0, 0
	nums := noteNums(n)
	list := [][]byte{
		nil, {0}, {9}, {1}, {2, 1}, spelled(8), spelled(8, 0, 0), spelled(8, 0, 0, 6), spelled(8, 0, 0, 6, 1, 0, 0, 0, 1, 0), spelled(8, 0, 0, 0, 0, 0),
		// Bytes that no number has, and those that are missing.
		append(row(good), 9), append(row(good), 1), append([]byte{2, 16, 0}, row(good)[2:]...), row(good)[1:], row(good)[:len(row(good))-1],
		// A number more, or less.
		append(row(good), 0), spelled(nums[:len(nums)-1]...), spelled(append([]int{0}, nums...)...), spelled(nums[1:]...),
		// A frame, not the bytes within it.
		framed(row(good)),
	}
	// Another kind, other nodes, and other counts: of numbers, operations, entries, and places of Hist.
	for _, i := range []int{0, 1, 2, 3, 10, 11, 23} {
		for _, d := range []int{-1, 1, 1 << 32, least} {
			other := slices.Clone(nums)
			other[i] += d
			list = append(list, spelled(other...))
		}
	}
	// Places of Hist that are none, or don't rise, or have no number.
	for _, pairs := range [][]int{{65, 1, 2, 1}, {-1, 1, 2, 1}, {2, 1, 2, 1}, {3, 1, 2, 1}, {2, 1, 3, 0}} {
		list = append(list, spelled(slices.Concat(nums[:23], []int{2}, pairs)...))
	}
	for _, x := range []api.Note{
		{Kind: isAck, Nums: []int{0, 1, 0, 0}},
		{Kind: 1, Nums: []int{0, 1, 5, 0}},
		{Kind: 4, Nums: []int{0, 1, 5, 0}},
		{Kind: 3, Nums: []int{1, 0, 2, 0, 5, 0}},
		{Kind: 7, Nums: []int{1, 0, least, least, 5, 0}},
		{Kind: isBatch, From: sender, To: self, Nums: n.Nums, Entries: n.Entries},
		{Kind: isBatch, From: 1, Nums: n.Nums, Entries: n.Entries},
		{Kind: isBatch, To: 1, Nums: n.Nums, Entries: n.Entries},
		{Kind: isBatch, Nums: append(slices.Clone(n.Nums), 0), Entries: n.Entries},
		{Kind: isBatch, Nums: n.Nums[:5], Entries: n.Entries},
		{Kind: isBatch, Nums: n.Nums, Ops: []api.Op{{Seq: 1, Kind: isSample}}, Entries: n.Entries},
	} {
		list = append(list, spelled(noteNums(x)...))
	}
	return append(list, rows(wrongBatches()...)...)
}

// framed is a frame of bytes.
func framed(b []byte) []byte {
	f, err := frame.Wrap(b)
	if err != nil {
		panic(err)
	}
	return f
}

// P18.1: a row that is no batch's is refused wherever it stands, and the tape stays as it is.
func TestOpenRefusesWrongRows(t *testing.T) {
	for _, wrong := range append(wrongRows(), rows(strays()...)...) {
		for _, list := range [][][]byte{
			{wrong},
			{wrong, row(chain(0, 1)[0])},
			{row(chain(1, 1)[0]), wrong},
			append(rows(chain(1, 4)...), wrong, row(chain(2, 1)[0])),
		} {
			p := on(t, 3, list...)
			was := p.x.Read()
			if err := p.reopen(t); err != errForm || !bytes.Equal(p.x.Read(), was) {
				t.Errorf("of the rows %v: %v", list, err)
			}
		}
	}
}

// P18.1: rows that stand alone and aren't accepted in their turn: batches that come twice, that leave out a part, that go back, whose epochs fall; and the same ones in another order.
func TestOpenRefusesRowsTogether(t *testing.T) {
	c := chain(0, 4)
	for _, list := range [][]api.Batch{
		{c[0], c[0]},
		{c[0], c[1], c[1]},
		{c[0], c[1], c[0]},
		{c[0], c[2]},
		{c[1], c[0]},
		{c[0], c[1], c[3]},
		{c[0], batch(9, 0, start(), upTo(3))},
		{c[0], batch(9, 0, at(-1, 0), upTo(3))},
		{c[0], batch(9, 0, at(0, least+1), upTo(3))},
		{c[0], batch(9, 0, upTo(0), upTo(0))},
		{c[0], batch(9, 0, upTo(1), upTo(1))},
		{batch(2, 0, start(), upTo(0)), batch(1, 0, upTo(0), upTo(1))},
		{batch(greatest, 0, start(), upTo(0)), batch(greatest-1, 0, upTo(0), upTo(1))},
		{batch(2, 0, start(), upTo(0)), batch(3, 0, upTo(0), upTo(1)), batch(2, 0, upTo(1), upTo(2))},
		{batch(2, 0, start(), upTo(0)), batch(5, 1, start(), upTo(0)), batch(1, 0, upTo(0), upTo(1))},
		{batch(1, 0, start(), end()), batch(1, 0, end(), end())},
		// Another lane's frontier is none of this one.
		{c[0], batch(1, 1, upTo(0), upTo(1))},
		{batch(1, 1, start(), upTo(0)), batch(1, 0, upTo(0), upTo(1))},
	} {
		p := on(t, 2, rows(list...)...)
		was := p.x.Read()
		if err := p.reopen(t); err != errForm || !bytes.Equal(p.x.Read(), was) {
			t.Errorf("of %v: %v", short(list...), err)
		}
	}
}

// choices is batches of few places, epochs and lanes, in form, many of which meet.
func choices() []api.Batch {
	places := []api.Place{start(), at(0, 0), upTo(1), end()}
	var list []api.Batch
	for i, from := range places {
		for _, to := range places[i:] {
			for epoch := 1; epoch <= 3; epoch++ {
				b := batch(epoch, 0, from, to)
				if from != to {
					b = batch(epoch, 0, from, to, from)
				}
				list = append(list, b)
			}
		}
	}
	return append(list, batch(1, 1, start(), at(0, 0)), batch(3, 1, start(), at(0, 0), start()), batch(2, 1, at(0, 0), end()), batch(1, 2, start(), at(0, 0)))
}

// P18.1 and P18.2: all rows of up to three out of some batches: just those open that join and whose epochs don't fall.
func TestOpenOfAllShortRows(t *testing.T) {
	list := choices()
	good, wrong := 0, 0
	var try func(some []api.Batch)
	try = func(some []api.Batch) {
		p := on(t, 2, rows(some...)...)
		if p.reopen(t) == nil {
			good++
			onceOnly(t, p.o, 2)
		} else {
			wrong++
		}
		if len(some) < 3 {
			for _, b := range list {
				try(append(slices.Clone(some), b))
			}
		}
	}
	try(nil)
	if good < 100 || wrong < 10000 {
		t.Errorf("%d of them open, %d don't", good, wrong)
	}
}

// P18.1: a tape opens with as many lanes as its batches need, or more.
func TestOpenWithOtherLanes(t *testing.T) {
	list := rows(slices.Concat(chain(0, 2), chain(4, 3))...)
	for lanes := 1; lanes <= mostLanes; lanes++ {
		want := error(nil)
		if lanes < 5 {
			want = errForm
		}
		if err := on(t, lanes, list...).reopen(t); err != want {
			t.Errorf("%d lanes: %v", lanes, err)
		}
	}
}

// P18.1: Read ahead of, at and behind the frontier, of places with an entry and without, in each lane.
func TestRead(t *testing.T) {
	p := both(t, 3)
	p.send(t, batch(1, 1, start(), at(2, 5), start(), at(-4, 9), at(2, -1), at(2, 4)), 1, at(2, 5))
	p.send(t, batch(1, 2, start(), at(0, 0), at(-4, 9), at(-1, greatest)), 1, at(0, 0))
	p.send(t, batch(1, 1, at(2, 5), at(2, 7), at(2, 5)), 1, at(2, 7))
	for _, c := range []struct {
		lane  int
		place api.Place
		err   error
		there bool
	}{
		{1, start(), nil, true}, {1, at(least, least+1), nil, false}, {1, at(-4, 8), nil, false}, {1, at(-4, 9), nil, true}, {1, at(-4, 10), nil, false},
		{1, at(-3, 9), nil, false}, {1, at(-5, 9), nil, false}, {1, at(2, -2), nil, false}, {1, at(2, -1), nil, true}, {1, at(2, 4), nil, true},
		{1, at(2, 5), nil, true}, {1, at(2, 6), nil, false}, {1, at(2, 7), errNotYet, false}, {1, at(2, 8), errNotYet, false}, {1, upTo(3), errNotYet, false},
		{1, upTo(2), nil, false}, {1, at(1, greatest), nil, false}, {1, at(1, 8), nil, false}, {1, end(), errNotYet, false}, {1, at(9, least), errNotYet, false},
		{0, start(), errNotYet, false}, {0, at(-4, 9), errNotYet, false}, {0, end(), errNotYet, false},
		{2, start(), nil, false}, {2, at(-4, 9), nil, true}, {2, at(2, -1), errNotYet, false}, {2, at(-1, greatest), nil, true}, {2, at(0, 0), errNotYet, false}, {2, at(0, -1), nil, false},
		{3, start(), errRange, false}, {-1, start(), errRange, false}, {3, end(), errRange, false}, {least, at(-4, 9), errRange, false}, {greatest, at(-4, 9), errRange, false}, {1 << 32, start(), errRange, false},
	} {
		want := api.Cell{}
		if c.there {
			want = entry(c.place).Cell
		}
		if got, err := p.o.Read(c.lane, c.place); got != want || err != c.err {
			t.Errorf("Read(%d, %v): %v, %v, want %v, %v", c.lane, c.place, got, err, want, c.err)
		}
		p.expectRead(t, c.lane, c.place)
	}
}

// P18.1: cells that no samples come to are read as they were sent, too.
func TestReadOfOddCells(t *testing.T) {
	odd := []api.Cell{
		{Count: -1}, {Count: least}, {Sum: api.Wide{Hi: least}}, {Sum: api.Wide{Lo: math64}}, {Min: 1}, {Max: greatest},
		{Last: api.Last{Time: 1}}, {Last: api.Last{Source: -1}}, {Last: api.Last{Seq: least}}, {Last: api.Last{Value: 5}},
	}
	for _, i := range []int{0, 1, 32, 64} {
		var c api.Cell
		c.Hist[i] = -i - 1
		odd = append(odd, c)
	}
	p := both(t, 1)
	b := batch(1, 0, start(), upTo(1))
	for key, c := range odd {
		b.Entries = append(b.Entries, api.Entry{Place: at(0, key), Cell: c})
	}
	p.send(t, b, 1, upTo(1))
	for range 2 {
		for key, want := range odd {
			if got, err := p.o.Read(0, at(0, key)); got != want || err != nil {
				t.Errorf("Read of %v: %v, %v", want, got, err)
			}
		}
		if err := p.reopen(t); err != nil {
			t.Fatal(err)
		}
	}
}

// math64 is the greatest lower half of a wide number.
const math64 = 1<<64 - 1

// P18.1: a nil sink has no answers, no lane and no log.
func TestNil(t *testing.T) {
	var o *outfall.Outfall
	for _, n := range []api.Note{{}, sent(batch(1, 0, start(), upTo(0))), sent(batch(1, 0, start(), start()))} {
		for _, n.To = range []int{0, self, -1} {
			if got := o.Handle(n); len(got) != 0 {
				t.Error(got)
			}
		}
	}
	for _, lane := range []int{least, -1, 0, 1, 11, 12, greatest} {
		for _, at := range []api.Place{start(), at(0, 0), end()} {
			if c, err := o.Read(lane, at); c != (api.Cell{}) || err != errRange {
				t.Errorf("Read(%d, %v): %v, %v", lane, at, c, err)
			}
		}
		if o.Frontier(lane) != (api.Place{}) || o.Epoch(lane) != 0 {
			t.Errorf("lane %d: %v, %d", lane, o.Frontier(lane), o.Epoch(lane))
		}
	}
	if got := o.Log(); len(got) != 0 {
		t.Error(got)
	}
}

// P18.1: sinks on tapes of their own know nothing of each other.
func TestApart(t *testing.T) {
	a, b := both(t, 2), both(t, 2)
	a.send(t, batch(5, 1, start(), upTo(3), at(1, 1)), 5, upTo(3))
	b.send(t, batch(2, 1, start(), upTo(1), at(0, 0)), 2, upTo(1))
	a.send(t, batch(5, 1, upTo(1), upTo(2)), 5, upTo(3))
	b.send(t, batch(2, 1, upTo(1), upTo(2), at(1, 1)), 2, upTo(2))
	a.expect(t)
	b.expect(t)
}
