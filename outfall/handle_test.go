package outfall_test

import (
	"slices"
	"testing"

	"estuary/api"
	"estuary/outfall"
	"estuary/tape"
)

// onceOnly checks P18.2 on a sink's log: in each lane the batches join one another from the least place on, and epochs don't fall; and what is told of the lane and read in it is what they say.
func onceOnly(t *testing.T, o *outfall.Outfall, lanes int) {
	t.Helper()
	log := o.Log()
	for lane := range lanes {
		from, epoch := start(), 0
		for _, b := range log {
			if b.Lane != lane {
				continue
			}
			if b.From != from || !ahead(b.From, b.To) || b.Epoch < max(epoch, 1) || !inForm(b) {
				t.Fatalf("behind %v and epoch %d: %v", from, epoch, short(b))
			}
			for _, e := range b.Entries {
				if c, err := o.Read(lane, e.Place); c != e.Cell || err != nil {
					t.Fatalf("Read(%d, %v): %v, %v, want %v", lane, e.Place, c, err, e.Cell)
				}
			}
			from, epoch = b.To, b.Epoch
		}
		if o.Frontier(lane) != from || o.Epoch(lane) != epoch {
			t.Fatalf("lane %d: %v, %d, want %v, %d", lane, o.Frontier(lane), o.Epoch(lane), from, epoch)
		}
	}
	for _, b := range log {
		if b.Lane < 0 || b.Lane >= lanes {
			t.Fatalf("of %d lanes: %v", lanes, short(b))
		}
	}
}

// P18.1: batches that join are accepted, one behind the other, in each lane by itself; the answer tells the epoch and the frontier behind that.
func TestBatchesThatJoin(t *testing.T) {
	p := both(t, 3)
	var log []api.Batch
	for i := range 20 {
		for lane := range 3 {
			b := chain(lane, 20)[i]
			p.send(t, b, b.Epoch, b.To)
			log = append(log, b)
		}
	}
	if got := p.o.Log(); !slices.EqualFunc(got, log, equal) {
		t.Errorf("the log is %v, want %v", short(got...), short(log...))
	}
	onceOnly(t, p.o, 3)
	if err := p.reopen(t); err != nil {
		t.Error(err)
	}
}

// P18.1: the same batch again is answered as at first, and not accepted.
func TestSameBatchAgain(t *testing.T) {
	p := both(t, 2)
	for i, b := range chain(1, 6) {
		for range 3 {
			p.send(t, b, b.Epoch, b.To)
			if got := len(p.o.Log()); got != i+1 {
				t.Fatalf("%d batches are accepted, want %d", got, i+1)
			}
		}
	}
	// And those from long ago.
	for _, b := range chain(1, 6) {
		p.send(t, b, 3, upTo(5))
	}
	if got := p.o.Log(); !slices.EqualFunc(got, chain(1, 6), equal) {
		t.Error(short(got...))
	}
}

// P18.2: another batch between the same places, or of a part of them, changes nothing that is read.
func TestOtherBatchOfTheSamePlaces(t *testing.T) {
	p := both(t, 1)
	p.send(t, batch(1, 0, start(), at(1, 0), at(0, 0), at(0, 5)), 1, at(1, 0))
	for epoch := 1; epoch < 4; epoch++ {
		for _, from := range []api.Place{start(), at(0, 0), at(0, 5), at(0, 6)} {
			for _, to := range []api.Place{at(0, 1), at(0, 6), at(0, 7), at(1, 0), at(1, 1), end()} {
				b := batch(epoch, 0, from, to)
				b.Entries = []api.Entry{{Place: from, Cell: some(99)}}
				if ahead(from, to) {
					p.send(t, b, 1, at(1, 0))
				}
			}
		}
	}
	for key := range 9 {
		want := api.Cell{}
		if key == 0 || key == 5 {
			want = entry(at(0, key)).Cell
		}
		if got, err := p.o.Read(0, at(0, key)); got != want || err != nil {
			t.Errorf("Read of %d: %v, %v", key, got, err)
		}
	}
	if len(p.o.Log()) != 1 {
		t.Error(short(p.o.Log()...))
	}
}

// P18.1: an empty batch, wherever it stands and of whatever epoch, is answered and not accepted.
func TestEmptyBatches(t *testing.T) {
	p := both(t, 1)
	places := []api.Place{start(), at(least, least+1), at(0, -1), at(0, 0), at(0, 1), upTo(1), end()}
	for _, at := range places {
		for _, epoch := range []int{1, 2, 3, greatest} {
			p.send(t, batch(epoch, 0, at, at), 0, start())
		}
	}
	p.send(t, batch(2, 0, start(), at(0, 0), start()), 2, at(0, 0))
	for _, place := range places {
		for _, epoch := range []int{1, 2, 3, greatest} {
			p.send(t, batch(epoch, 0, place, place), 2, at(0, 0))
		}
	}
	if len(p.o.Log()) != 1 || p.x.Steps() != 3 {
		t.Error(short(p.o.Log()...), p.x.Steps())
	}
}

// P18.1: a batch that begins ahead of the frontier, or behind it, is answered and not accepted, even by one place and wherever it ends.
func TestBatchesThatDontJoin(t *testing.T) {
	p := both(t, 1)
	for _, from := range []api.Place{at(least, least+1), at(least, greatest), upTo(least + 1), at(0, 0), at(greatest, greatest-1)} {
		p.send(t, batch(1, 0, from, end(), from), 0, start())
	}
	p.send(t, batch(2, 0, start(), at(3, 5), at(3, 4)), 2, at(3, 5))
	for _, from := range []api.Place{
		start(), at(3, 4), upTo(3), at(2, 5), at(2, 6), at(2, greatest), at(-3, 5),
		at(3, 6), at(3, greatest), upTo(4), at(4, 5), at(4, 4), at(greatest, 5),
	} {
		for _, to := range []api.Place{at(3, 4), at(3, 5), at(3, 6), upTo(4), upTo(9), end()} {
			for _, epoch := range []int{1, 2, 3} {
				if ahead(from, to) {
					p.send(t, batch(epoch, 0, from, to, from), 2, at(3, 5))
				}
			}
		}
	}
	if len(p.o.Log()) != 1 {
		t.Error(short(p.o.Log()...))
	}
	p.send(t, batch(2, 0, at(3, 5), at(3, 6), at(3, 5)), 2, at(3, 6))
}

// P18.1: a batch that joins of a lower epoch isn't accepted, of an equal or a greater one it is; each lane has an epoch of its own.
func TestEpochs(t *testing.T) {
	p := both(t, 3)
	p.send(t, batch(5, 0, start(), upTo(0)), 5, upTo(0))
	for _, epoch := range []int{1, 2, 3, 4} {
		p.send(t, batch(epoch, 0, upTo(0), upTo(1)), 5, upTo(0))
	}
	p.send(t, batch(5, 0, upTo(0), upTo(1)), 5, upTo(1))
	p.send(t, batch(6, 0, upTo(1), upTo(2)), 6, upTo(2))
	p.send(t, batch(5, 0, upTo(2), upTo(3)), 6, upTo(2))
	p.send(t, batch(1, 1, start(), upTo(0)), 1, upTo(0))
	p.send(t, batch(4, 2, start(), upTo(0)), 4, upTo(0))
	p.send(t, batch(3, 2, upTo(0), upTo(1)), 4, upTo(0))
	p.send(t, batch(3, 1, upTo(0), upTo(1)), 3, upTo(1))
	p.send(t, batch(greatest, 0, upTo(2), upTo(3)), greatest, upTo(3))
	p.send(t, batch(greatest-1, 0, upTo(3), upTo(4)), greatest, upTo(3))
	p.send(t, batch(greatest, 0, upTo(3), upTo(4)), greatest, upTo(4))
	// What isn't accepted doesn't raise the epoch.
	p.send(t, batch(9, 1, upTo(0), upTo(2)), 3, upTo(1))
	p.send(t, batch(9, 1, upTo(2), upTo(3)), 3, upTo(1))
	p.send(t, batch(9, 1, upTo(1), upTo(1)), 3, upTo(1))
	p.send(t, batch(3, 1, upTo(1), upTo(2)), 3, upTo(2))
	for lane, want := range []int{greatest, 3, 4} {
		if got := p.o.Epoch(lane); got != want {
			t.Errorf("Epoch(%d): %d, want %d", lane, got, want)
		}
	}
	if err := p.reopen(t); err != nil {
		t.Error(err)
	}
	p.send(t, batch(greatest-1, 0, upTo(4), upTo(5)), greatest, upTo(4))
	p.send(t, batch(3, 2, upTo(0), upTo(1)), 4, upTo(0))
}

// P18.1: the lane that came to the greatest place accepts nothing more.
func TestLaneAtItsEnd(t *testing.T) {
	p := both(t, 2)
	p.send(t, batch(1, 0, start(), end(), start(), at(greatest, greatest-1)), 1, end())
	p.send(t, batch(1, 0, end(), end()), 1, end())
	p.send(t, batch(2, 0, start(), end()), 1, end())
	for _, at := range []api.Place{start(), at(0, 0), at(greatest, greatest-1), end()} {
		p.expectRead(t, 0, at)
	}
	p.send(t, batch(1, 1, start(), at(greatest, greatest-1)), 1, at(greatest, greatest-1))
	p.send(t, batch(1, 1, at(greatest, greatest-1), end(), at(greatest, greatest-1)), 1, end())
	if _, err := p.o.Read(1, end()); err != errNotYet {
		t.Error(err)
	}
}

// P18.1: the answer goes to who sent the note, be it accepted or not; notes from and to what are no nodes have none.
func TestWhoIsAnswered(t *testing.T) {
	p := both(t, 1)
	for i, from := range []int{0, 1, 4, self, 500, 998, 999} {
		n := sent(batch(1, 0, p.o.Frontier(0), upTo(i), at(i-1, 3)))
		n.From = from
		for range 2 {
			if got := p.handle(t, n); len(got) != 1 || got[0].From != self || got[0].To != from {
				t.Errorf("%d is answered %v", from, got)
			}
		}
	}
	was := len(p.o.Log())
	for _, node := range []int{-1, 1000, 1 << 32, least, greatest} {
		n := sent(batch(9, 0, p.o.Frontier(0), end()))
		n.From = node
		if got := p.handle(t, n); len(got) != 0 {
			t.Errorf("%d is answered %v", node, got)
		}
		n.From, n.To = sender, node
		if got := p.handle(t, n); len(got) != 0 {
			t.Errorf("for %d it answers %v", node, got)
		}
	}
	for node := range 1000 {
		n := sent(batch(9, 0, p.o.Frontier(0), end()))
		n.To = node
		if node != self && len(p.o.Handle(n)) != 0 {
			t.Errorf("it answers for %d", node)
		}
	}
	if len(p.o.Log()) != was {
		t.Error(short(p.o.Log()...))
	}
}

// P18.1: notes of other kinds, and ones that aren't in form, have no answer and change nothing.
func TestOtherNotes(t *testing.T) {
	p := both(t, 3)
	p.send(t, batch(1, 1, start(), upTo(0), at(-1, 0)), 1, upTo(0))
	good := sent(batch(1, 0, start(), upTo(1), at(0, 2)))
	none := func(n api.Note) {
		t.Helper()
		if got := p.handle(t, n); len(got) != 0 {
			t.Errorf("Handle(%v): %v", n, got)
		}
	}
	for _, kind := range []int{least, -8, -1, 0, 1, 2, 3, 4, 5, 6, 7, 9, 10, 16, 1<<32 + 8, greatest} {
		n := good
		n.Kind = kind
		none(n)
		n.Entries = nil
		none(n)
		n.Nums = []int{0, 1, 0, 0}
		none(n)
	}
	for size := range 12 {
		n := good
		n.Nums = append(slices.Clone(good.Nums), 0, 0, 0, 0, 0, 0)[:size]
		if size != 6 {
			none(n)
		}
	}
	n := good
	n.Ops = []api.Op{{Seq: 1, Kind: isSample}}
	none(n)
	none(api.Note{To: self})
	for _, b := range wrongBatches() {
		none(sent(b))
	}
	for _, b := range strays()[4:9] {
		none(sent(b))
	}
	if len(p.o.Log()) != 1 {
		t.Error(short(p.o.Log()...))
	}
	if got := p.handle(t, good); len(got) != 1 || len(p.o.Log()) != 2 {
		t.Error(got)
	}
}

// P18.1: nothing is written for a batch that isn't accepted.
func TestNothingIsWrittenForOthers(t *testing.T) {
	p := both(t, 1)
	p.send(t, batch(2, 0, start(), upTo(0)), 2, upTo(0))
	steps := p.x.Steps()
	for _, b := range []api.Batch{
		batch(2, 0, start(), upTo(0)), batch(1, 0, upTo(0), upTo(1)), batch(2, 0, upTo(1), upTo(2)), batch(3, 0, upTo(0), upTo(0)),
		batch(3, 1, start(), upTo(0)), batch(0, 0, upTo(0), upTo(1)),
	} {
		p.handle(t, sent(b))
	}
	if p.x.Steps() != steps {
		t.Errorf("%d steps, want %d", p.x.Steps(), steps)
	}
}

// P18.1: where the diary refuses the row there is no answer, and nothing is accepted; what isn't to be accepted is answered all the same. Later it is accepted.
func TestDiaryRefuses(t *testing.T) {
	next := batch(4, 0, upTo(0), upTo(1), at(0, 3))
	for step := range 2 {
		p := both(t, 2)
		p.send(t, batch(3, 0, start(), upTo(0), at(-1, 3)), 3, upTo(0))
		was := p.x.Read()
		p.each(func(x *tape.Tape) { x.Fail(step) })
		if got := p.handle(t, sent(next)); len(got) != 0 || !slices.Equal(p.x.Read(), was) {
			t.Errorf("step %d is refused: %v", step, got)
		}
		p.send(t, next, 4, upTo(1))
	}
	for step := range 2 {
		p := both(t, 2)
		p.send(t, batch(3, 0, start(), upTo(0), at(-1, 3)), 3, upTo(0))
		p.each(func(x *tape.Tape) { x.Arm(step) })
		for range 3 {
			if got := p.handle(t, sent(next)); len(got) != 0 {
				t.Errorf("the power goes at step %d: %v", step, got)
			}
			p.send(t, batch(3, 0, start(), upTo(0)), 3, upTo(0))
			p.send(t, batch(9, 0, upTo(0), upTo(0)), 3, upTo(0))
			p.send(t, batch(2, 0, upTo(0), upTo(1)), 3, upTo(0))
			p.send(t, batch(9, 1, upTo(0), upTo(1)), 0, start())
			if got := p.handle(t, sent(batch(1, 1, start(), upTo(1)))); len(got) != 0 {
				t.Errorf("without power: %v", got)
			}
		}
		p.each(func(x *tape.Tape) { x.Crash(0) })
		if err := p.reopen(t); err != nil {
			t.Fatal(err)
		}
		p.send(t, next, 4, upTo(1))
	}
}

// bulky is a batch of so many entries whose rows are about as long as rows may be.
func bulky(epoch, n int, from, to api.Place) api.Batch {
	b := batch(epoch, 0, from, to)
	for key := range n {
		c := api.Cell{Count: greatest, Sum: api.Wide{Hi: greatest, Lo: 1 << 62}, Min: least, Max: greatest, Last: api.Last{Time: least, Source: least, Seq: least, Value: least}}
		for i := range c.Hist {
			c.Hist[i] = least + i + key
		}
		b.Entries = append(b.Entries, api.Entry{Place: at(from.Win, greatest-100+key), Cell: c})
	}
	return b
}

// P18.1: rows up to the longest one are written; where the tape has no room for one more there is no answer, and a shorter one still finds it.
func TestFullTape(t *testing.T) {
	p := both(t, 1)
	// Looked at from outside, as all of the log is long here.
	o, m := p.o, p.m
	send := func(b api.Batch) bool {
		got, want := o.Handle(sent(b)), m.handle(sent(b))
		if len(got) != len(want) || len(got) == 1 && !slices.Equal(got[0].Nums, want[0].Nums) {
			t.Fatalf("%v: %v, want %v", short(b), got, want)
		}
		return len(got) == 1
	}
	from, win := start(), greatest-1000
	for n := 16; n > 0; {
		to := upTo(win)
		if from == start() {
			send(batch(1, 0, from, to))
			from, win = to, win+1
			continue
		}
		if send(bulky(1, n, from, to)) {
			from, win = to, win+1
			continue
		}
		n--
	}
	if size := len(p.x.Read()); size < api.MaxTape-1500 || size > api.MaxTape || len(o.Log()) < 80 {
		t.Errorf("%d bytes, %d batches", size, len(o.Log()))
	}
	for send(batch(1, 0, from, upTo(win))) {
		from, win = upTo(win), win+1
	}
	if size := len(p.x.Read()); size < api.MaxTape-50 {
		t.Errorf("%d bytes", size)
	}
	p.expect(t)
	p.send(t, batch(1, 0, from, from), 1, from)
	if err := p.reopen(t); err != nil {
		t.Error(err)
	}
	onceOnly(t, p.o, 1)
}

// P18.1: many batches are all kept, each in its row, and are there when the tape is opened again.
func TestManyBatches(t *testing.T) {
	p := both(t, 1)
	list := chain(0, 1500)
	for i, b := range list {
		got := p.o.Handle(sent(b))
		if p.m.handle(sent(b)); len(got) != 1 || !slices.Equal(got[0].Nums, acked(0, b.Epoch, b.To).Nums) {
			t.Fatalf("batch %d: %v", i, got)
		}
	}
	p.expect(t)
	for range 2 {
		if got := p.o.Log(); !slices.EqualFunc(got, list, equal) {
			t.Errorf("%d batches are there", len(got))
		}
		onceOnly(t, p.o, 1)
		if err := p.reopen(t); err != nil {
			t.Fatal(err)
		}
	}
}

// P18.1 and P18.2: all rows of three out of some batches, handed in one behind the other.
func TestHandleOfAllShortRows(t *testing.T) {
	list := choices()
	accepted := 0
	for _, a := range list {
		for _, b := range list {
			for _, c := range list {
				p := both(t, 2)
				p.handle(t, sent(a))
				p.handle(t, sent(b))
				p.handle(t, sent(c))
				onceOnly(t, p.o, 2)
				accepted += len(p.o.Log())
			}
		}
	}
	if accepted < 1000 {
		t.Errorf("%d are accepted", accepted)
	}
}
