package spring_test

import (
	"slices"
	"testing"

	"estuary/api"
	"estuary/note"
	"estuary/spring"
	"estuary/tape"
)

// ledger is what a spring's answers tell, and the one operation that was cut.
type ledger struct {
	setup
	answered []api.Op // all operations, from number 1 on
	cut      []api.Op // none or one
	held     []api.Op
	places   []api.Place
	asked    []api.Place // of each lane the greatest place that a note had
	value    int         // differs for each sample, so that one that was refused is told from others
}

// newLedger is the ledger of a spring whose diary has just these rows of operations.
func newLedger(t *testing.T, a setup, s *spring.Spring, rows int) *ledger {
	t.Helper()
	l := &ledger{setup: a, held: s.Stream().Held(), places: s.Stream().Places(), asked: s.Stream().Places(), value: 5000}
	for i := range rows {
		l.answered = append(l.answered, mark(i+1, min(i/5, 99)))
	}
	for _, o := range l.held {
		l.answered[o.Seq-1] = o
	}
	l.check(t, s)
	return l
}

// next is the number of the next operation.
func (l *ledger) next() int { return len(l.answered) + 1 }

// note writes down what a spring answered of an operation.
func (l *ledger) note(t *testing.T, s *spring.Spring, x *tape.Tape, wasDown bool, want, got api.Op, err error) {
	t.Helper()
	if err != nil {
		if got != (api.Op{}) {
			t.Fatalf("%v beside %v", got, err)
		}
		if err == errDown && !wasDown && x.Down() {
			l.cut = []api.Op{want}
		}
	} else {
		if got != want {
			t.Fatalf("%v, want %v", got, want)
		}
		l.answered = append(l.answered, got)
		if got.Kind == isSample {
			l.held = append(l.held, got)
		}
	}
	l.check(t, s)
}

// emit emits a sample.
func (l *ledger) emit(t *testing.T, s *spring.Spring, x *tape.Tape, time, key int) {
	t.Helper()
	l.value++
	wasDown := x.Down()
	o, err := s.Emit(time, key, l.value)
	l.note(t, s, x, wasDown, api.Op{Seq: l.next(), Kind: isSample, Time: time, Key: key, Value: l.value}, o, err)
}

// mark emits a mark.
func (l *ledger) mark(t *testing.T, s *spring.Spring, x *tape.Tape, time int) {
	t.Helper()
	wasDown := x.Down()
	o, err := s.Mark(time)
	l.note(t, s, x, wasDown, mark(l.next(), time), o, err)
}

// ask asks by a note with places, and writes down what was dropped: it is nothing but what the cut that is told covers.
func (l *ledger) ask(t *testing.T, s *spring.Spring, from int, places ...api.Place) api.Note {
	t.Helper()
	greater := slices.Clone(l.places)
	if len(places) == l.lanes() {
		for i, p := range places {
			if ahead(l.asked[i], p) {
				l.asked[i] = p
			}
			if ahead(greater[i], p) {
				greater[i] = p
			}
		}
	}
	got := s.Handle(need(from, places...))
	if len(got) != 1 {
		t.Fatalf("%v", got)
	}
	cut := note.Places(got[0].Nums[2:])
	if !slices.Equal(cut, l.places) && !slices.Equal(cut, greater) {
		t.Fatalf("from %v by %v the cut becomes %v", l.places, places, cut)
	}
	var left []api.Op
	for _, o := range l.held {
		if slices.Contains(s.Stream().Held(), o) {
			left = append(left, o)
		} else if !l.covers(o, cut) {
			t.Fatalf("%v is dropped by the cut %v", o, cut)
		}
	}
	l.held, l.places = left, cut
	l.check(t, s)
	return got[0]
}

// reopened checks a spring that is opened behind a crash: it has all operations that were answered, and at most the one that was cut. It answers whether that one is there.
func (l *ledger) reopened(t *testing.T, s *spring.Spring) bool {
	t.Helper()
	there := false
	if s.Stream().Next() == l.next()+1 && len(l.cut) > 0 {
		there = true
		l.answered = append(l.answered, l.cut[0])
		if l.cut[0].Kind == isSample {
			l.held = append(l.held, l.cut[0])
		}
	}
	l.cut = nil
	l.check(t, s)
	return there
}

// check checks that a spring has what was answered, and holds of it all that it didn't drop; and that nothing was dropped but what is covered by what was asked.
func (l *ledger) check(t *testing.T, s *spring.Spring) {
	t.Helper()
	x := s.Stream()
	if x.Next() != l.next() || !slices.Equal(x.Held(), l.held) || !slices.Equal(x.Places(), l.places) {
		t.Fatalf("the stream has %d, %v, %v, want %d, %v, %v", x.Next(), x.Held(), x.Places(), l.next(), l.held, l.places)
	}
	var last api.Op
	for _, o := range l.answered {
		if o.Kind == isMark {
			last = o
			continue
		}
		if !slices.Contains(l.held, o) && !l.covers(o, l.places) {
			t.Fatalf("%v isn't held, and isn't ahead of the cut %v", o, l.places)
		}
	}
	if seq, time, _ := x.Last(); seq != last.Seq || time != last.Time {
		t.Fatalf("the last mark is %d, %d, want %v", seq, time, last)
	}
	for i, p := range l.places {
		if ahead(l.asked[i], p) {
			t.Fatalf("lane %d is cut at %v, asked was %v", i, p, l.asked[i])
		}
	}
}

// crashed is the spring of a tape behind a crash.
func crashed(t *testing.T, a setup, x *tape.Tape, keep int) *spring.Spring {
	t.Helper()
	x.Crash(keep)
	s, err := a.open(x)
	if err != nil {
		t.Fatalf("behind a crash that keeps %d: %v", keep, err)
	}
	return s
}

// started is a spring on rows of operations, its tape and its ledger.
func started(t *testing.T, a setup, rows int) (*spring.Spring, *tape.Tape, *ledger) {
	t.Helper()
	x := laid(t, many(rows)...)
	s := crashed(t, a, x, 0)
	return s, x, newLedger(t, a, s, rows)
}

// script is calls one behind the other: what is put, what is refused, and cuts that drop some and none.
func script(t *testing.T, s *spring.Spring, x *tape.Tape, l *ledger, time int) {
	t.Helper()
	win := time / 10
	both := func(n int) []api.Place { return []api.Place{upTo(win + n), upTo(win + n)} }
	l.emit(t, s, x, time+5, 1)
	l.emit(t, s, x, time+15, -2)
	l.mark(t, s, x, time+10)
	l.emit(t, s, x, time+9, 3) // late
	l.ask(t, s, l.next()-2, both(0)...)
	l.ask(t, s, 1, both(1)...)
	l.mark(t, s, x, time+9) // goes back
	l.emit(t, s, x, time+16, 1)
	l.ask(t, s, 1, upTo(win+9))
	l.ask(t, s, 1, upTo(win+1), upTo(win+2))
	l.mark(t, s, x, time+20)
	l.emit(t, s, x, time+40, 300)
	l.ask(t, s, 1, both(2)...)
	l.mark(t, s, x, time+20)
	l.emit(t, s, x, time+30, 4)
	l.emit(t, s, x, time+31, 4)
}

// sharded is a setup with two lanes, by even and odd keys.
func sharded() setup { return setup{self, []int{10}, 2, 6, 3} }

// P15.2 and P15.3: the power goes behind each number of steps of a script, and each number of bytes is kept: behind the crash there is what was answered, and at most the one operation that was cut; so it is from there on. At some rows the diary is rewritten within the script.
func TestPowerGoesAtEachStep(t *testing.T) {
	const longest = 30 // more than the longest row's frame has
	for _, rows := range []int{0, 5, enough - 4, enough - 1, enough, enough + 1} {
		there, gone, last := 0, 0, 0
		for arm := range 26 {
			for keep := -1; keep <= longest; keep++ {
				s, x, l := started(t, sharded(), rows)
				x.Arm(arm)
				script(t, s, x, l, 200)
				cut := len(l.cut) > 0
				if x.Down() {
					last = arm
				}
				if len(x.Read())-x.Sure() > longest {
					t.Fatal("a row is longer than all that is kept")
				}
				s = crashed(t, sharded(), x, keep)
				if l.reopened(t, s) {
					there++
				} else if cut {
					gone++
				}
				script(t, s, x, l, 300)
				l.reopened(t, crashed(t, sharded(), x, 0))
			}
		}
		if there < 50 || gone < 300 || last >= 25 {
			t.Errorf("at %d rows the operation that was cut is there %d times, not there %d times; the last step is %d", rows, there, gone, last)
		}
	}
}

// P15.2: a row that was cut is there just if all of its bytes are kept.
func TestCutRowIsWholeOrNotThere(t *testing.T) {
	for _, rows := range []int{0, 7, enough + 1} {
		steps := 1
		if rows > enough {
			steps = 2 // the diary is rewritten ahead of the row
		}
		for keep := -1; keep < 40; keep++ {
			s, x, l := started(t, sharded(), rows)
			x.Arm(steps)
			l.emit(t, s, x, 200, 1)
			size := len(x.Read()) - x.Sure()
			if size < 10 || len(l.cut) != 1 {
				t.Fatalf("%d bytes aren't sure", size)
			}
			if there := l.reopened(t, crashed(t, sharded(), x, keep)); there != (keep >= size) {
				t.Errorf("%d bytes kept of %d: there %v", keep, size, there)
			}
		}
	}
}

// P15.2: a crash behind each call, when no power went within it, changes nothing, whatever is kept.
func TestCrashBehindEachCall(t *testing.T) {
	for _, rows := range []int{0, enough - 3, enough + 1} {
		for _, keep := range []int{least, -1, 0, 1, 100, greatest} {
			s, x, l := started(t, sharded(), rows)
			again := func() {
				was := s.Rows()
				s = crashed(t, sharded(), x, keep)
				if l.reopened(t, s) || s.Rows() != was {
					t.Fatalf("%d rows, want %d", s.Rows(), was)
				}
			}
			for i := range 12 {
				l.emit(t, s, x, 200+i, i)
				again()
				l.mark(t, s, x, 195+i)
				again()
				l.ask(t, s, 1, upTo(19), upTo(18+i/3))
				again()
			}
		}
	}
}

// P15.2: what a disk refused is never there, whatever comes behind it: neither in the next crash nor behind further calls.
func TestRefusedIsNeverThere(t *testing.T) {
	for _, rows := range []int{0, enough - 3, enough + 1} {
		for fail := range 26 {
			for _, keep := range []int{-1, 0, 10, 20, greatest} {
				s, x, l := started(t, sharded(), rows)
				x.Fail(fail)
				script(t, s, x, l, 200)
				s = crashed(t, sharded(), x, keep)
				if l.reopened(t, s) {
					t.Errorf("at %d rows, step %d: what was refused is there", rows, fail)
				}
				x.Fail(1)
				script(t, s, x, l, 300)
				l.reopened(t, crashed(t, sharded(), x, keep))
			}
		}
	}
}

// P15.2: one step is refused and the power goes at another one: at all pairs of them.
func TestRefusedAndPowerGone(t *testing.T) {
	for _, rows := range []int{0, enough + 1} {
		for fail := range 22 {
			for arm := range 22 {
				s, x, l := started(t, sharded(), rows)
				x.Fail(fail)
				x.Arm(arm)
				script(t, s, x, l, 200)
				s = crashed(t, sharded(), x, (fail+arm*7)%30-1)
				l.reopened(t, s)
				script(t, s, x, l, 300)
				l.reopened(t, crashed(t, sharded(), x, 0))
			}
		}
	}
}

// P15.3: where the power goes within a cut, or the disk refuses it, all that was held is there; else just what it dropped isn't.
func TestCutIsWholeOrNotThere(t *testing.T) {
	for _, rows := range []int{0, enough + 1} {
		for _, stop := range []func(x *tape.Tape) error{
			func(x *tape.Tape) error { return nil },
			func(x *tape.Tape) error { return x.Arm(0) },
			func(x *tape.Tape) error { return x.Fail(0) },
			func(x *tape.Tape) error { return x.Arm(1) },
		} {
			for keep := -1; keep < 3; keep++ {
				s, x, l := started(t, sharded(), rows)
				for i := range 3 {
					l.emit(t, s, x, 200+10*i, i)
				}
				was := l.held
				if err := stop(x); err != nil {
					t.Fatal(err)
				}
				l.ask(t, s, 1, upTo(21), upTo(21))
				l.reopened(t, crashed(t, sharded(), x, keep))
				if n := len(l.held); n != len(was) && n != 2 {
					t.Errorf("of %v %v is held", was, l.held)
				}
			}
		}
	}
}

// P15.2 and P15.3: long runs of calls with disks that refuse, power that goes, within Open too, and crashes that keep anything: what was answered stays, and nothing is lost that isn't ahead of the cut.
func TestCrashes(t *testing.T) {
	there, opens, dropped, rewritten := 0, 0, 0, 0
	for seed := range 120 {
		r := scramble(seed + 7000)
		a := sharded()
		a.hold = 3 + seed%20
		s, x, l := started(t, a, seed*4)
		time := 200
		for range 150 {
			switch r.next(12) {
			case 0:
				x.Fail(r.next(4))
			case 1:
				x.Arm(r.next(6))
			}
			rows, held := s.Rows(), len(l.held)
			switch r.next(6) {
			case 0, 1, 2:
				l.emit(t, s, x, time+r.next(30), r.next(9)-4)
			case 3, 4:
				l.mark(t, s, x, time+r.next(3))
			default:
				l.ask(t, s, l.next()-r.next(9), upTo((time-r.next(20))/10), upTo((time-r.next(20))/10))
			}
			time += r.next(3)
			if len(l.held) < held {
				dropped++
			} else if s.Rows() < rows {
				rewritten++
			}
			if !x.Down() && r.next(15) > 0 {
				continue
			}
			x.Crash(r.next(40) - 1)
			// A start may be cut too; nothing is lost by it.
			if r.next(3) == 0 {
				x.Arm(0)
				if _, err := a.open(x); err == errDown {
					opens++
				}
			}
			s = crashed(t, a, x, r.next(40)-1)
			if l.reopened(t, s) {
				there++
			}
		}
	}
	if there < 50 || opens < 20 || dropped < 500 || rewritten < 20 {
		t.Errorf("the operation that was cut is there %d times, Open is cut %d times, %d times samples are dropped, %d times the diary is rewritten", there, opens, dropped, rewritten)
	}
}

// P15.3: one who asks on and on, from behind what it was told, gets every sample once, through any crashes and rewrites, if it asks to cut just what the marks close that it was told.
func TestEverySampleIsReplayed(t *testing.T) {
	for seed := range 60 {
		r := scramble(seed + 9000)
		a := sharded()
		s, x, l := started(t, a, 0)
		var got, want []api.Op
		from, time, closed := 1, 0, least
		for len(l.answered) < 600 {
			if r.next(20) == 0 {
				x.Arm(r.next(5))
			}
			if r.next(20) == 0 {
				x.Fail(r.next(5))
			}
			switch r.next(5) {
			case 0, 1:
				l.emit(t, s, x, time+r.next(10), r.next(5))
			case 2, 3:
				l.mark(t, s, x, time)
			}
			time += r.next(2)
			if x.Down() {
				s = crashed(t, a, x, r.next(30)-1)
				l.reopened(t, s)
			}
			if r.next(3) == 0 {
				continue
			}
			back := l.ask(t, s, from, repeat(upTo(closed), 2)...)
			for _, o := range back.Ops {
				if o.Kind == isSample {
					got = append(got, o)
				} else {
					closed = window(o.Time, 10)
				}
			}
			from = back.Nums[1] + 1
		}
		for _, o := range l.answered[:from-1] {
			if o.Kind == isSample {
				want = append(want, o)
			}
		}
		if !slices.Equal(got, want) || len(want) < 100 {
			t.Fatalf("seed %d: %d samples are replayed, want %d", seed, len(got), len(want))
		}
	}
}
