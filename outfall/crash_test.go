package outfall_test

import (
	"slices"
	"testing"

	"estuary/api"
	"estuary/note"
	"estuary/outfall"
	"estuary/tape"
)

// ledger is what a sink's answers tell, and the one batch that was cut.
type ledger struct {
	model
	cut  []api.Batch // none or one
	seen map[api.Id]api.Cell
}

// newLedger is the ledger of a sink that accepted these batches.
func newLedger(t *testing.T, o *outfall.Outfall, lanes int, log []api.Batch) *ledger {
	t.Helper()
	l := &ledger{model: model{node: self, lanes: lanes, log: cloned(log)}, seen: map[api.Id]api.Cell{}}
	l.check(t, o)
	return l
}

// send hands a batch to a sink, and writes down whether it was answered for.
func (l *ledger) send(t *testing.T, o *outfall.Outfall, x *tape.Tape, b api.Batch) {
	t.Helper()
	wasDown, joins := x.Down(), l.joins(b)
	got := o.Handle(sent(b))
	switch {
	case len(got) == 0 && !joins:
		t.Fatalf("%v isn't answered", short(b))
	case len(got) == 0 && !wasDown && x.Down():
		l.cut = []api.Batch{b}
	case len(got) == 1 && joins:
		l.log = append(l.log, b)
	}
	if want := acked(b.Lane, l.epoch(b.Lane), l.frontier(b.Lane)); len(got) > 0 && !note.Same(got[0], want) {
		t.Fatalf("%v: %v, want %v", short(b), got, want)
	}
	l.check(t, o)
}

// check checks that a sink has just what was answered for, and that all that was ever read is as it was; then it reads more.
func (l *ledger) check(t *testing.T, o *outfall.Outfall) {
	t.Helper()
	if got := o.Log(); !slices.EqualFunc(got, l.log, equal) {
		t.Fatalf("the log is %v, want %v", short(got...), short(l.log...))
	}
	for id, want := range l.seen {
		if got, err := o.Read(id.Lane, id.Place); got != want || err != nil {
			t.Fatalf("Read(%d, %v): %v, %v, was %v", id.Lane, id.Place, got, err, want)
		}
	}
	for lane := range l.lanes {
		to := l.frontier(lane)
		for _, p := range []api.Place{start(), at(to.Win-1, 0), at(to.Win-1, 1), at(to.Win-1, 2), at(to.Win-1, greatest)} {
			if c, err := o.Read(lane, p); err == nil {
				l.seen[api.Id{Lane: lane, Place: p}] = c
			}
		}
	}
}

// reopened checks a sink that is opened behind a crash: it has all batches that were answered for, and at most the one that was cut, whole. It answers whether that one is there.
func (l *ledger) reopened(t *testing.T, o *outfall.Outfall) bool {
	t.Helper()
	there := len(l.cut) > 0 && len(o.Log()) == len(l.log)+1
	if there {
		l.log = append(l.log, l.cut[0])
	}
	l.cut = nil
	l.check(t, o)
	onceOnly(t, o, l.lanes)
	return there
}

// crashed is the sink of a tape behind a crash.
func crashed(t *testing.T, x *tape.Tape, lanes, keep int) *outfall.Outfall {
	t.Helper()
	x.Crash(keep)
	o, err := outfall.Open(self, lanes, x)
	if err != nil {
		t.Fatalf("behind a crash that keeps %d: %v", keep, err)
	}
	return o
}

// started is a sink of two lanes on rows of batches, its tape and its ledger.
func started(t *testing.T, log ...api.Batch) (*outfall.Outfall, *tape.Tape, *ledger) {
	t.Helper()
	x := laid(t, rows(log...)...)
	o := crashed(t, x, 2, 0)
	return o, x, newLedger(t, o, 2, log)
}

// onward is the batch of a lane from its frontier on to a later window, with cells at keys of the window ahead of that.
func onward(o *outfall.Outfall, epoch, lane, keys int) api.Batch {
	from := o.Frontier(lane)
	win := max(from.Win, 0) + 2
	b := batch(epoch, lane, from, upTo(win))
	for key := range keys {
		b.Entries = append(b.Entries, api.Entry{Place: at(win-1, key), Cell: some(1000*epoch + key)})
	}
	return b
}

// script is batches one behind the other: those that join, the same ones again, elder and empty ones, and some that begin elsewhere.
func script(t *testing.T, o *outfall.Outfall, x *tape.Tape, l *ledger, epoch int) {
	t.Helper()
	send := func(b api.Batch) { l.send(t, o, x, b) }
	first := onward(o, epoch, 0, 2)
	send(first)
	send(first)
	send(onward(o, 1, 0, 1))
	send(onward(o, epoch, 1, 0))
	send(batch(epoch, 0, o.Frontier(0), o.Frontier(0)))
	send(onward(o, epoch+1, 1, 1))
	send(batch(epoch+9, 0, upTo(7000), upTo(7001)))
	send(onward(o, epoch, 1, 2))
	send(first)
	send(onward(o, epoch, 0, 0))
	send(onward(o, epoch+1, 0, 3))
}

// past is batches of two lanes, the last of epoch 2.
func past(n int) []api.Batch {
	if n == 0 {
		return nil
	}
	return append(chain(1, 3), chain(0, min(n, 4))...)
}

// P18.2 and P18.3: the power goes behind each number of steps of a script, and each number of bytes is kept: behind the crash there is all that was answered for, and at most the one batch that was cut; so it is from there on.
func TestPowerGoesAtEachStep(t *testing.T) {
	const longest = 170 // more than the longest row's frame has
	for _, n := range []int{0, 4} {
		there, gone, last := 0, 0, 0
		for arm := range 12 {
			for keep := -1; keep <= longest; keep++ {
				o, x, l := started(t, past(n)...)
				x.Arm(arm)
				script(t, o, x, l, 5)
				cut := len(l.cut) > 0
				if x.Down() {
					last = arm
				}
				if len(x.Read())-x.Sure() > longest {
					t.Fatal("a row is longer than all that is kept")
				}
				o = crashed(t, x, 2, keep)
				if l.reopened(t, o) {
					there++
				} else if cut {
					gone++
				}
				script(t, o, x, l, 6)
				l.reopened(t, crashed(t, x, 2, 0))
			}
		}
		if there < 50 || gone < 300 || last != 9 {
			t.Errorf("behind %d batches the one that was cut is there %d times, not there %d times; the last step is %d", n, there, gone, last)
		}
	}
}

// P18.3: a batch that was cut is there just if all bytes of its row are kept, and is accepted once, if it comes again.
func TestCutBatchIsWholeOrNotThere(t *testing.T) {
	for keys := range 17 {
		o, x, _ := started(t, past(4)...)
		b := onward(o, 3, 0, keys)
		size := len(row(b)) + 8
		for _, keep := range []int{least, -1, 0, 1, 8, 9, size / 2, size - 1, size, size + 1, greatest} {
			var l *ledger
			o, x, l = started(t, past(4)...)
			x.Arm(1)
			l.send(t, o, x, b)
			if got := len(x.Read()) - x.Sure(); got != size || len(l.cut) != 1 {
				t.Fatalf("%d bytes aren't sure, want %d", got, size)
			}
			o = crashed(t, x, 2, keep)
			if there := l.reopened(t, o); there != (keep >= size) {
				t.Errorf("%d bytes kept of %d: there %v", keep, size, there)
			}
			l.send(t, o, x, b)
			l.send(t, o, x, b)
			l.reopened(t, crashed(t, x, 2, keep))
			if got := o.Log(); !slices.EqualFunc(got, append(past(4), b), equal) {
				t.Errorf("the log is %v", short(got...))
			}
		}
	}
}

// P18.3: a crash behind each batch, when no power went within it, changes nothing, whatever is kept.
func TestCrashBehindEachBatch(t *testing.T) {
	for _, keep := range []int{least, -1, 0, 1, 100, greatest} {
		o, x, l := started(t, past(3)...)
		for i := range 30 {
			for _, b := range []api.Batch{onward(o, 3+i, i%2, i%17), batch(99, i%2, upTo(-5), upTo(0)), onward(o, 1, 1-i%2, 1), onward(o, 2+i, 1-i%2, 0)} {
				l.send(t, o, x, b)
				o = crashed(t, x, 2, keep)
				if l.reopened(t, o) {
					t.Fatal("a batch is there that wasn't cut")
				}
			}
		}
	}
}

// P18.3: what a disk refused is never there, whatever comes behind it: neither behind the next crash nor behind further batches.
func TestRefusedIsNeverThere(t *testing.T) {
	for _, n := range []int{0, 4} {
		for fail := range 14 {
			for _, keep := range []int{-1, 0, 10, 60, greatest} {
				o, x, l := started(t, past(n)...)
				x.Fail(fail)
				script(t, o, x, l, 5)
				o = crashed(t, x, 2, keep)
				if l.reopened(t, o) {
					t.Errorf("step %d: what was refused is there", fail)
				}
				x.Fail(1)
				script(t, o, x, l, 6)
				l.reopened(t, crashed(t, x, 2, keep))
			}
		}
	}
}

// P18.3: one step is refused and the power goes at another one: at all pairs of them.
func TestRefusedAndPowerGone(t *testing.T) {
	for fail := range 13 {
		for arm := range 13 {
			for keep := -1; keep < 170; keep += 34 {
				o, x, l := started(t, past(2)...)
				x.Fail(fail)
				x.Arm(arm)
				script(t, o, x, l, 5)
				o = crashed(t, x, 2, keep)
				l.reopened(t, o)
				script(t, o, x, l, 6)
				l.reopened(t, crashed(t, x, 2, 0))
			}
		}
	}
}

// anyBatch is a batch without an order to be seen: mostly one that joins, else one near that.
func anyBatch(s *scramble, o *outfall.Outfall, lanes int) api.Batch {
	lane := s.next(lanes)
	b := onward(o, o.Epoch(lane)+s.next(3), lane, s.next(4))
	b.Epoch = max(b.Epoch, 1)
	switch s.next(8) {
	case 0:
		b.Epoch = 1 + s.next(b.Epoch)
	case 1:
		b = batch(b.Epoch, lane, b.From, b.From)
	case 2:
		b.From.Win += s.next(2)
	case 3:
		b.From = upTo(b.From.Win - 1)
	}
	// Where it began in the least window, it may go round to the greatest one.
	if ahead(b.To, b.From) {
		b = batch(b.Epoch, lane, b.From, b.From)
	}
	return b
}

// P18.2 and P18.3: long runs of batches with disks that refuse, power that goes, within Open too, and crashes that keep anything: what was answered for stays, and is read as it was.
func TestCrashes(t *testing.T) {
	there, opens, accepted := 0, 0, 0
	for seed := range 80 {
		s := scramble(seed + 7000)
		o, x, l := started(t, past(seed%5)...)
		var again []api.Batch
		for range 70 {
			switch s.next(10) {
			case 0:
				x.Fail(s.next(4))
			case 1:
				x.Arm(s.next(6))
			}
			b := anyBatch(&s, o, 2)
			again = append(again, b)
			l.send(t, o, x, b)
			l.send(t, o, x, again[s.next(len(again))])
			if !x.Down() && s.next(15) > 0 {
				continue
			}
			x.Crash(s.next(150) - 1)
			// A start may be cut too; nothing is lost by it.
			if s.next(3) == 0 {
				x.Arm(0)
				if _, err := outfall.Open(self, 2, x); err == errDown {
					opens++
				}
			}
			o = crashed(t, x, 2, s.next(150)-1)
			if l.reopened(t, o) {
				there++
			}
		}
		accepted += len(l.log)
	}
	if there < 50 || opens < 20 || accepted < 2000 {
		t.Errorf("the batch that was cut is there %d times, Open is cut %d times, %d are accepted", there, opens, accepted)
	}
}

// P18.1: batches and other notes in any order, with disks that refuse, power that goes, crashes and Opens between them.
func TestLongRuns(t *testing.T) {
	for seed := range 60 {
		s := scramble(seed)
		p := both(t, 3, rows(past(seed%5)...)...)
		for range 80 {
			switch s.next(20) {
			case 0:
				n := s.next(4)
				p.each(func(x *tape.Tape) { x.Fail(n) })
			case 1:
				n := s.next(6)
				p.each(func(x *tape.Tape) { x.Arm(n) })
			case 2, 3:
				keep := s.next(150) - 1
				p.each(func(x *tape.Tape) { x.Crash(keep) })
				p.reopen(t)
			case 4:
				p.reopen(t)
			}
			if p.o == nil {
				p.each(func(x *tape.Tape) { x.Crash(0) })
				p.reopen(t)
			}
			n := sent(anyBatch(&s, p.o, 3))
			switch s.next(25) {
			case 0:
				n.Kind = s.next(12) - 1
			case 1:
				n.To = s.next(9)
			case 2:
				n.From = []int{-1, 0, 999, 1000}[s.next(4)]
			case 3:
				n.Nums = n.Nums[:s.next(7)]
			case 4:
				n.Nums[s.next(6)] = []int{-1, 0, 3, 12, least, greatest}[s.next(6)]
			case 5:
				n.Entries = append(n.Entries, api.Entry{Place: at(s.next(50), s.next(3)), Cell: some(s.next(2))})
			case 6:
				n.Entries = append(n.Entries, n.Entries...)
			}
			p.handle(t, n)
		}
	}
}
