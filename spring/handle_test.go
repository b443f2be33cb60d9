package spring_test

import (
	"bytes"
	"slices"
	"testing"

	"estuary/api"
	"estuary/frame"
	"estuary/note"
	"estuary/tape"
)

// some is a pair with three samples and a mark.
func some(t *testing.T, a setup) *pair {
	t.Helper()
	p := both(t, a)
	p.emit(t, 5, 1, 7)
	p.emit(t, 15, 2, 8)
	p.mark(t, 14)
	p.emit(t, 25, 3, 9)
	return p
}

// P15.1: notes that aren't for it have no answer, and do nothing.
func TestNotesForOthers(t *testing.T) {
	p := some(t, plain())
	for _, to := range []int{0, 1, 3, 999, -1, -2, 1000, 1<<32 + self, least, greatest} {
		n := need(1, upTo(2))
		n.To = to
		if got := p.handle(t, n); len(got) != 0 || p.s.Rows() != 4 {
			t.Errorf("to %d: %v", to, got)
		}
	}
	// It goes by To alone, not by From.
	for _, from := range []int{0, self, 999} {
		n := need(1)
		n.From = from
		if got := p.handle(t, n); len(got) != 1 || got[0].To != from || got[0].From != self {
			t.Errorf("from %d: %v", from, got)
		}
	}
}

// P15.1: notes of other kinds have no answer, and do nothing.
func TestOtherKinds(t *testing.T) {
	p := some(t, plain())
	for _, kind := range []int{0, 1, 2, 3, 4, 5, 7, 8, 9, 10, -1, -6, 1<<32 + 6, least, greatest} {
		for count := range 8 {
			n := need(1)
			n.Kind, n.Nums = kind, slices.Repeat([]int{2}, count)
			if got := p.handle(t, n); len(got) != 0 || p.s.Rows() != 4 {
				t.Errorf("kind %d: %v", kind, got)
			}
		}
	}
}

// P15.1: notes that aren't in form have no answer, and do nothing.
func TestNotesNotInForm(t *testing.T) {
	p := some(t, plain())
	for count := range 40 {
		n := need(1)
		n.Nums = slices.Repeat([]int{2}, count)
		want := 0
		if count%2 == 1 && count <= 25 {
			want = 1
		}
		if got := p.handle(t, n); len(got) != want {
			t.Errorf("%d numbers: %v", count, got)
		}
	}
	p = some(t, plain())
	for _, from := range []int{-1, 1000, least, greatest, 1<<32 + 1} {
		n := need(1, upTo(2))
		n.From = from
		if got := p.handle(t, n); len(got) != 0 {
			t.Errorf("from %d: %v", from, got)
		}
	}
	n := need(1, upTo(2))
	n.Ops = []api.Op{sample(1, 5)}
	if got := p.handle(t, n); len(got) != 0 {
		t.Errorf("with an operation: %v", got)
	}
	n = need(1, upTo(2))
	n.Entries = make([]api.Entry, 1)
	if got := p.handle(t, n); len(got) != 0 {
		t.Errorf("with an entry: %v", got)
	}
	if p.s.Rows() != 4 {
		t.Errorf("%d rows", p.s.Rows())
	}
}

// P15.1: with fewer and more places than lanes nothing is cut; with as many, it is.
func TestPlacesAndLanes(t *testing.T) {
	for _, a := range []setup{plain(), wide(), {self, []int{10, 20, 30}, 4, 64, 16}, {self, []int{10}, 4, 9, 1}} {
		for count := range 15 {
			p := some(t, a)
			got := p.handle(t, need(1, repeat(upTo(1), count)...))
			answers, dropped := 1, 0
			if count > 12 {
				answers = 0
			}
			if count == a.lanes() {
				dropped = 1
			}
			if len(got) != answers || len(p.s.Stream().Held()) != 3-dropped {
				t.Errorf("%d places at %d lanes: %v, held %v", count, a.lanes(), got, p.s.Stream().Held())
			}
			if cut := p.s.Stream().Places()[0]; (cut == upTo(1)) != (dropped > 0) || (p.s.Rows() == 4) != (dropped == 0) {
				t.Errorf("%d places at %d lanes: cut at %v, %d rows", count, a.lanes(), cut, p.s.Rows())
			}
		}
	}
}

// P15.1: a cut that drops nothing isn't done: neither the cut nor the diary changes, and no step is made.
func TestCutThatDropsNothing(t *testing.T) {
	p := some(t, plain())
	steps := p.x.Steps()
	for _, place := range []api.Place{at(least, least), upTo(0), at(0, 0), at(0, 1)} {
		if got := p.handle(t, need(1, place)); len(got) != 1 || got[0].Nums[2] != least || got[0].Nums[3] != least {
			t.Errorf("%v: %v", place, got)
		}
	}
	if p.s.Rows() != 4 || p.x.Steps() != steps {
		t.Errorf("%d rows, %d steps, want 4 and %d", p.s.Rows(), p.x.Steps(), steps)
	}
	if got := p.handle(t, need(1, at(0, 2))); len(got) != 1 || got[0].Nums[2] != 0 || got[0].Nums[3] != 2 {
		t.Errorf("the first place behind a sample: %v", got)
	}
	if p.s.Rows() != 3 || p.x.Steps() != steps+1 {
		t.Errorf("%d rows, %d steps, want 3 and %d", p.s.Rows(), p.x.Steps(), steps+1)
	}
	// Nor is one behind it that drops nothing more, or goes back.
	for _, place := range []api.Place{at(0, 2), at(least, least), at(0, 3), at(1, 2)} {
		if got := p.handle(t, need(1, place)); len(got) != 1 || got[0].Nums[2] != 0 || got[0].Nums[3] != 2 {
			t.Errorf("%v: %v", place, got)
		}
	}
	if p.s.Rows() != 3 || p.x.Steps() != steps+1 {
		t.Errorf("%d rows, %d steps, want 3 and %d", p.s.Rows(), p.x.Steps(), steps+1)
	}
}

// P15.1: a cut drops just what is covered in all its lanes, and each place of it is the greater one.
func TestCutByLanes(t *testing.T) {
	p := both(t, wide()) // lanes 0 and 1 of 10, lanes 2 and 3 of 60, by even and odd keys
	p.emit(t, 5, 0, 1)
	p.emit(t, 5, 1, 2)
	p.emit(t, 65, 0, 3)
	p.emit(t, 65, 1, 4)
	for _, c := range []struct {
		places []api.Place
		held   []int
		cut    []api.Place
	}{
		{[]api.Place{upTo(1), upTo(0), upTo(0), upTo(1)}, []int{1, 2, 3, 4}, repeat(at(least, least), 4)},
		{[]api.Place{upTo(1), upTo(0), upTo(1), upTo(0)}, []int{2, 3, 4}, []api.Place{upTo(1), upTo(0), upTo(1), upTo(0)}},
		{[]api.Place{upTo(7), upTo(0), upTo(0), upTo(9)}, []int{2, 3, 4}, []api.Place{upTo(1), upTo(0), upTo(1), upTo(0)}},
		{[]api.Place{upTo(0), at(0, 2), upTo(0), at(0, 2)}, []int{3, 4}, []api.Place{upTo(1), at(0, 2), upTo(1), at(0, 2)}},
		{repeat(at(greatest, greatest), 4), nil, repeat(at(greatest, greatest), 4)},
	} {
		got := p.handle(t, need(1, c.places...))
		if len(got) != 1 || !slices.Equal(note.Places(got[0].Nums[2:]), c.cut) {
			t.Errorf("cut by %v: %v, want the cut %v", c.places, got, c.cut)
		}
		var held []int
		for _, o := range p.s.Stream().Held() {
			held = append(held, o.Seq)
		}
		if !slices.Equal(held, c.held) {
			t.Errorf("cut by %v: held %v, want %v", c.places, held, c.held)
		}
		if err := p.reopen(t); err != nil {
			t.Fatal(err)
		}
	}
}

// P15.1: where rewriting is refused the cut isn't done, and the answer is as without it; later it is done.
func TestCutIsRefused(t *testing.T) {
	for _, do := range []func(x *tape.Tape){
		func(x *tape.Tape) { x.Fail(0) },
		func(x *tape.Tape) { x.Arm(0) },
		func(x *tape.Tape) { x.Arm(0); x.Sync() },
	} {
		p := some(t, plain())
		was := p.x.Read()
		p.each(do)
		got := p.handle(t, need(1, upTo(1)))
		want := []api.Op{{Seq: 1, Kind: isSample, Time: 5, Key: 1, Value: 7}, {Seq: 2, Kind: isSample, Time: 15, Key: 2, Value: 8}}
		if len(got) != 1 || !slices.Equal(got[0].Nums, []int{1, 2, least, least}) || !slices.Equal(got[0].Ops, want) {
			t.Errorf("where it is refused: %v", got)
		}
		if !bytes.Equal(p.x.Read(), was) || p.s.Rows() != 4 {
			t.Errorf("where it is refused: %d rows", p.s.Rows())
		}
		p.each(func(x *tape.Tape) { x.Crash(greatest) })
		got = p.handle(t, need(1, upTo(1)))
		if len(got) != 1 || !slices.Equal(got[0].Nums, []int{1, 3, 1, least}) || len(got[0].Ops) != 2 || got[0].Ops[0].Seq != 2 || p.s.Rows() != 3 {
			t.Errorf("behind that: %v, %d rows", got, p.s.Rows())
		}
	}
}

// P15.1: replays of at most chunk operations, of which each one goes on behind the last one, give all that is held and the last mark, once.
func TestReplays(t *testing.T) {
	a := wide()
	a.hold = 64
	for a.chunk = 1; a.chunk <= 16; a.chunk++ {
		p := both(t, a)
		for i := range 45 {
			if i%3 == 1 {
				p.mark(t, i)
			} else {
				p.emit(t, i+2, i, i*i)
			}
		}
		p.handle(t, need(1, repeat(upTo(1), 4)...))
		p.handle(t, need(1, upTo(1), upTo(2), upTo(1), upTo(2)))
		var all []api.Op
		from := 1
		for from < p.s.Stream().Next() {
			got := p.handle(t, need(from))
			if len(got) != 1 || len(got[0].Ops) > a.chunk || got[0].Nums[0] != from || got[0].Nums[1] < from {
				t.Fatalf("from %d: %v", from, got)
			}
			all = append(all, got[0].Ops...)
			from = got[0].Nums[1] + 1
		}
		last, time, _ := p.s.Stream().Last()
		want := append(p.s.Stream().Held(), mark(last, time))
		slices.SortFunc(want, func(a, b api.Op) int { return a.Seq - b.Seq })
		if !slices.Equal(all, want) {
			t.Errorf("with chunks of %d: %v, want %v", a.chunk, all, want)
		}
		for _, from := range []int{least, -1, 0, 44, 45, 46, 47, 1000, greatest} {
			p.handle(t, need(from))
		}
	}
}

// P15.1: what is asked for ahead of the first number and behind the last one.
func TestReplayEdges(t *testing.T) {
	p := both(t, plain())
	for _, c := range []struct{ from, last, ops int }{{1, 0, 0}, {least, 0, 0}, {greatest, 0, 0}} {
		got := p.handle(t, need(c.from))
		if len(got) != 1 || got[0].Nums[0] != c.from || got[0].Nums[1] != c.last || len(got[0].Ops) != c.ops {
			t.Errorf("of none, from %d: %v", c.from, got)
		}
	}
	p = some(t, plain())
	for _, c := range []struct{ from, last, ops int }{{least, 2, 2}, {0, 2, 2}, {1, 2, 2}, {2, 3, 2}, {3, 4, 2}, {4, 4, 1}, {5, 4, 0}, {greatest, 4, 0}} {
		got := p.handle(t, need(c.from))
		if len(got) != 1 || got[0].Nums[0] != c.from || got[0].Nums[1] != c.last || len(got[0].Ops) != c.ops {
			t.Errorf("from %d: %v", c.from, got)
		}
	}
}

// P15.1: with 300 rows a row is added; with more the diary is rewritten ahead of it.
func TestRewritten(t *testing.T) {
	for _, c := range []struct{ rows, want, steps int }{
		{enough - 1, enough, 2}, {enough, enough + 1, 2}, {enough + 1, 5, 3}, {enough + 2, 5, 3}, {1000, 5, 3},
	} {
		for _, emit := range []bool{true, false} {
			a := plain()
			a.hold = 4
			p := both(t, a, many(c.rows)...)
			steps := p.x.Steps()
			var o api.Op
			var err error
			if emit {
				o, err = p.emit(t, 200, 1, 2)
			} else {
				o, err = p.mark(t, 200)
			}
			if err != nil || o.Seq != c.rows+1 || p.s.Rows() != c.want || p.x.Steps() != steps+c.steps {
				t.Errorf("at %d rows: %v, %v, %d rows, %d steps", c.rows, o, err, p.s.Rows(), p.x.Steps()-steps)
			}
			if err := p.reopen(t); err != nil || p.s.Stream().Next() != c.rows+2 {
				t.Errorf("opened again: %v", err)
			}
		}
	}
}

// P15.1: the rows of a diary that was rewritten: the base, its samples, and the new row.
func TestRewrittenRows(t *testing.T) {
	p := both(t, plain(), many(enough+1)...)
	p.mark(t, 77)
	rows, _ := frame.Split(p.x.Read())
	want := append([][]byte{marked(302, mark(301, 60), at(least, least))}, ops(sampleOf(2, 1, 1), sampleOf(71, 70, 70), sampleOf(151, 150, 150), mark(302, 77))...)
	if !slices.EqualFunc(rows, want, bytes.Equal) {
		t.Errorf("rows %v, want %v", rows, want)
	}
}

// P15.1: what is refused by the stream, or asked by a note that drops nothing, doesn't rewrite the diary.
func TestNotRewritten(t *testing.T) {
	p := both(t, plain(), many(enough+1)...)
	steps := p.x.Steps()
	p.emit(t, 5, 1, 2)   // late
	p.emit(t, 500, 1, 2) // too many
	p.mark(t, 5)         // goes back
	p.handle(t, need(1))
	p.handle(t, need(1, upTo(0)))
	if p.s.Rows() != enough+1 || p.x.Steps() != steps {
		t.Errorf("%d rows, %d steps", p.s.Rows(), p.x.Steps()-steps)
	}
}

// P15.1: where rewriting is refused the row isn't added either: the tape is as it was.
func TestRewritingIsRefused(t *testing.T) {
	for _, c := range []struct {
		do   func(x *tape.Tape)
		want error
	}{
		{func(x *tape.Tape) { x.Fail(0) }, errDisk},
		{func(x *tape.Tape) { x.Arm(0) }, errDown},
		{func(x *tape.Tape) { x.Arm(0); x.Sync() }, errDown},
	} {
		a := plain()
		a.hold = 9
		p := both(t, a, many(enough+1)...)
		was := p.x.Read()
		p.each(c.do)
		o, err := p.emit(t, 200, 1, 2)
		if err != c.want || o != (api.Op{}) || !bytes.Equal(p.x.Read(), was) || p.s.Rows() != enough+1 {
			t.Errorf("%v, %v, %d rows", o, err, p.s.Rows())
		}
		p.each(func(x *tape.Tape) { x.Crash(greatest) })
		p.each(c.do)
		o, err = p.mark(t, 200)
		if err != c.want || o != (api.Op{}) || !bytes.Equal(p.x.Read(), was) || p.s.Rows() != enough+1 {
			t.Errorf("%v, %v, %d rows", o, err, p.s.Rows())
		}
		p.each(func(x *tape.Tape) { x.Crash(greatest) })
		if o, err := p.emit(t, 200, 1, 2); err != nil || o.Seq != enough+2 || p.s.Rows() != 5 {
			t.Errorf("asked again: %v, %v, %d rows", o, err, p.s.Rows())
		}
	}
}

// P15.1: where rewriting is done and the row is refused, the rewritten rows stand, and the stream stays.
func TestRewritingStaysWhereTheRowIsRefused(t *testing.T) {
	for step := 1; step <= 2; step++ {
		p := both(t, plain(), many(enough+1)...)
		p.each(func(x *tape.Tape) { x.Fail(step) })
		if o, err := p.mark(t, 200); err != errDisk || o != (api.Op{}) || p.s.Rows() != 4 || p.s.Stream().Next() != enough+2 {
			t.Errorf("%v, %v, %d rows", o, err, p.s.Rows())
		}
		if err := p.reopen(t); err != nil || p.s.Stream().Next() != enough+2 {
			t.Error(err)
		}
		p.each(func(x *tape.Tape) { x.Arm(1) })
		p.mark(t, 200)
		p.each(func(x *tape.Tape) { x.Crash(greatest) })
		if err := p.reopen(t); err != nil || p.s.Stream().Next() != enough+3 {
			t.Error(err)
		}
	}
}

// P15.1: rows of the longest numbers, with as many lanes and samples as may be: the diary is rewritten time and again, and never full.
func TestLongestRows(t *testing.T) {
	p := both(t, setup{999, []int{1, 2, 3}, 4, 64, 16})
	for i := range 64 {
		if _, err := p.emit(t, greatest-64+i, least+i, least+i); err != nil {
			t.Fatal(err)
		}
	}
	for i := range 700 {
		if _, err := p.mark(t, least+i); err != nil {
			t.Fatal(err)
		}
		if p.s.Rows() > enough+1 {
			t.Fatalf("%d rows", p.s.Rows())
		}
	}
	if err := p.reopen(t); err != nil {
		t.Error(err)
	}
	n := need(1, repeat(at(greatest-60, least), 12)...)
	n.To = 999
	p.handle(t, n)
	if err := p.reopen(t); err != nil {
		t.Error(err)
	}
}

// P15.1: more samples than are ever held, where they come from rows: the diary is rewritten ahead of each row then.
func TestMoreSamplesThanRows(t *testing.T) {
	var list []api.Op
	for i := range 350 {
		list = append(list, sample(i+1, i))
	}
	p := both(t, plain(), ops(list...)...)
	for i := range 3 {
		if _, err := p.emit(t, 1000, 1, 1); err != errBackpressure {
			t.Error(err)
		}
		if _, err := p.mark(t, i); err != nil || p.s.Rows() != 352 {
			t.Errorf("%v, %d rows", err, p.s.Rows())
		}
		if err := p.reopen(t); err != nil {
			t.Error(err)
		}
	}
	p.handle(t, need(1, upTo(34)))
	if p.s.Rows() != 11 {
		t.Errorf("%d rows", p.s.Rows())
	}
}

// P15.1: a sample that the cut covers already is held, through rewriting and Open, till it is cut again.
func TestSamplesAheadOfTheCut(t *testing.T) {
	p := both(t, plain())
	p.emit(t, 5, 1, 7)
	p.handle(t, need(1, upTo(9)))
	p.emit(t, 6, 1, 7)
	for range enough + 5 {
		p.mark(t, 0)
	}
	if err := p.reopen(t); err != nil || len(p.s.Stream().Held()) != 1 || p.s.Rows() > 100 {
		t.Fatal(err, p.s.Stream().Held(), p.s.Rows())
	}
	p.handle(t, need(1, upTo(0)))
	if len(p.s.Stream().Held()) != 0 || p.s.Stream().Places()[0] != upTo(9) {
		t.Error(p.s.Stream().Held(), p.s.Stream().Places())
	}
}

// do is a call, or something that happens to the tapes.
type do func(t *testing.T, p *pair)

// short is a few of these.
func short() []do {
	return []do{
		func(t *testing.T, p *pair) { p.emit(t, 5, 1, 7) },
		func(t *testing.T, p *pair) { p.emit(t, 12, 1, 8) },
		func(t *testing.T, p *pair) { p.mark(t, 10) },
		func(t *testing.T, p *pair) { p.mark(t, 0) },
		func(t *testing.T, p *pair) { p.handle(t, need(1)) },
		func(t *testing.T, p *pair) { p.handle(t, need(2, upTo(1))) },
		func(t *testing.T, p *pair) { p.handle(t, need(1, at(1, 5))) },
		func(t *testing.T, p *pair) { p.each(func(x *tape.Tape) { x.Fail(0) }) },
		func(t *testing.T, p *pair) { p.each(func(x *tape.Tape) { x.Fail(1) }) },
		func(t *testing.T, p *pair) { p.each(func(x *tape.Tape) { x.Arm(1) }) },
		func(t *testing.T, p *pair) { p.each(func(x *tape.Tape) { x.Crash(20) }); p.reopen(t) },
	}
}

// P15.1: all rows of five out of a few calls.
func TestAllShortRuns(t *testing.T) {
	list := short()
	a := plain()
	a.hold, a.chunk = 2, 1
	var run [5]int
	for {
		p := both(t, a)
		for _, i := range run {
			list[i](t, p)
		}
		at := 0
		for ; at < len(run) && run[at] == len(list)-1; at++ {
			run[at] = 0
		}
		if at == len(run) {
			return
		}
		run[at]++
	}
}

// anyPlaces is places without an order to be seen: mostly as many as lanes.
func anyPlaces(s *scramble, lanes, around int) []api.Place {
	count := lanes
	switch s.next(8) {
	case 0:
		count = s.next(13)
	case 1:
		count = 0
	}
	var places []api.Place
	for range count {
		p := upTo((around - s.next(30)) / 10)
		if s.next(3) == 0 {
			p.Key = s.next(7) - 3
		}
		places = append(places, p)
	}
	return places
}

// anyNote is a note without an order to be seen: mostly one that is answered.
func anyNote(s *scramble, p *pair, around int) api.Note {
	n := need(p.s.Stream().Next()-s.next(12), anyPlaces(s, p.lanes(), around)...)
	switch s.next(40) {
	case 0:
		n.Kind = s.next(12) - 1
	case 1:
		n.To = s.next(6)
	case 2:
		n.From = []int{-1, 0, 999, 1000}[s.next(4)]
	case 3:
		n.Nums = n.Nums[:s.next(len(n.Nums)+1)]
	case 4:
		n.Nums[0] = []int{least, -1, 0, 1, greatest}[s.next(5)]
	}
	return n
}

// P15.1: calls in any order, with disks that refuse, power that goes, crashes and Opens between them.
func TestLongRuns(t *testing.T) {
	setups := []setup{plain(), wide(), {self, []int{10}, 1, 1, 1}, {self, []int{10, 20, 60}, 4, 64, 16}, {self, []int{60, 7}, 1, 20, 8}}
	for seed := range 100 {
		s := scramble(seed)
		// From some seeds on there are many rows already, so that the diary is rewritten within the run.
		p := both(t, setups[seed%len(setups)], many(seed*4)...)
		time := 100
		for range 200 {
			switch s.next(30) {
			case 0:
				at := s.next(4)
				p.each(func(x *tape.Tape) { x.Fail(at) })
			case 1:
				at := s.next(6)
				p.each(func(x *tape.Tape) { x.Arm(at) })
			case 2, 3:
				keep := s.next(40) - 1
				p.each(func(x *tape.Tape) { x.Crash(keep) })
				p.reopen(t)
			case 4:
				p.reopen(t)
			}
			switch s.next(8) {
			case 0, 1, 2, 3:
				p.emit(t, time+s.next(40)-5, s.next(7)-3, s.next(1000)-500)
			case 4, 5:
				p.mark(t, time+s.next(5)-1)
			default:
				p.handle(t, anyNote(&s, p, time))
			}
			time += s.next(4)
		}
	}
}

// roomy is a list between other numbers, which stand in its spare room too; whole is all of them.
func roomy(list []int) (whole, part []int) {
	whole = slices.Concat([]int{-77}, list, []int{-78, -79, -80, -81, -82, -83, -84, -85})
	return whole, whole[1 : 1+len(list)]
}

// scribble changes all items of a list, and those of its spare room.
func scribble[T any](list []T, with T) {
	list = list[:cap(list)]
	for i := range list {
		list[i] = with
	}
}

// scribbleNotes changes all that notes consist of.
func scribbleNotes(notes []api.Note) {
	for _, n := range notes {
		scribble(n.Nums, -99)
		scribble(n.Ops, sample(-99, -99))
	}
	scribble(notes, api.Note{Kind: -99})
}

// P15.1: what is handed to Open is neither changed nor kept, its spare room included.
func TestResolutionsAreNeitherChangedNorKept(t *testing.T) {
	for _, rows := range [][][]byte{nil, many(20), {unmarked(4, repeat(upTo(0), 4)...), op(sampleOf(1, 15, 0))}} {
		list, part := roomy([]int{10, 60})
		was := slices.Clone(list)
		p := both(t, wide(), rows...)
		a := wide()
		a.res = part
		x := laid(t, rows...)
		s, err := a.open(x)
		if err != nil || !slices.Equal(list, was) {
			t.Fatalf("%v, Open changed what is handed in to %v", err, list)
		}
		scribble(part, 1)
		p.s, p.x = s, x
		p.emit(t, 115, 1, 2)
		p.emit(t, 65, 2, 3)
		p.handle(t, need(1, upTo(2), upTo(2), upTo(1), upTo(1)))
		p.handle(t, need(1, upTo(7), upTo(7), upTo(1), upTo(1)))
		p.handle(t, need(1, upTo(12), upTo(12), upTo(2), upTo(2)))
		if !slices.Equal(list, append([]int{-77}, slices.Repeat([]int{1}, 10)...)) {
			t.Errorf("what was handed in is changed to %v", list)
		}
	}
}

// P15.1: a note that is handed in is neither changed nor kept, its spare room included, whatever is answered.
func TestNotesAreNeitherChangedNorKept(t *testing.T) {
	for _, n := range []api.Note{
		need(1), need(3), need(1, upTo(0)), need(1, upTo(1)), need(1, upTo(9)), need(2, at(1, 3)),
		need(1, upTo(1), upTo(1)), need(1, repeat(upTo(1), 12)...), need(1, repeat(upTo(1), 13)...),
		{Kind: isReplay, From: asker, To: self, Nums: []int{1, 1, 0, 0}},
		{Kind: isNeed, From: asker, To: self + 1, Nums: []int{1, 9, 9}},
	} {
		p := some(t, plain())
		list, part := roomy(n.Nums)
		was := slices.Clone(list)
		handed := n
		handed.Nums = part
		got, want := p.s.Handle(handed), p.m.handle(n)
		if !slices.Equal(list, was) {
			t.Errorf("Handle(%v) changed what is handed in to %v", n, list)
		}
		scribble(part, -99)
		if !slices.EqualFunc(got, want, note.Same) {
			t.Errorf("Handle(%v) answers what is handed in: %v", n, got)
		}
		p.expect(t)
		scribbleNotes(got)
		p.expect(t)
		p.handle(t, need(1))
		if err := p.reopen(t); err != nil {
			t.Error(err)
		}
	}
}

// P15.1: operations and entries of a note that is refused aren't changed.
func TestListsOfNotesAreNotChanged(t *testing.T) {
	p := some(t, plain())
	room := make([]api.Op, 4)
	n := need(1, upTo(9))
	n.Ops = room[:2]
	p.handle(t, n)
	if !slices.Equal(room, make([]api.Op, 4)) {
		t.Error(room)
	}
}

// P15.1: answers are new memory: a spring stays as it is when they are changed, and no two share any.
func TestAnswersAreNewMemory(t *testing.T) {
	for _, n := range []api.Note{need(1), need(2), need(1, upTo(0)), need(1, upTo(1)), need(1, upTo(9)), need(9)} {
		p := some(t, plain())
		one, two := p.s.Handle(n), p.s.Handle(n)
		p.m.handle(n)
		want := p.m.handle(n)
		scribbleNotes(one)
		if !slices.EqualFunc(two, want, note.Same) {
			t.Errorf("two answers share memory: %v, want %v", two, want)
		}
		p.expect(t)
		scribbleNotes(two)
		p.expect(t)
		p.handle(t, n)
		p.emit(t, 30, 1, 2)
		p.handle(t, n)
	}
}

// P15.1: a stream that is answered is a clone: what is done to it isn't done to the spring, and the other way round.
func TestStreamIsAClone(t *testing.T) {
	p := some(t, plain())
	one, two := p.s.Stream(), p.s.Stream()
	if err := one.Put(sample(5, 99)); err != nil {
		t.Fatal(err)
	}
	if err := one.Put(mark(6, 99)); err != nil {
		t.Fatal(err)
	}
	if n, err := one.Cut([]api.Place{upTo(2)}); n != 2 || err != nil {
		t.Fatal(n, err)
	}
	p.expect(t)
	if two.Next() != 5 || len(two.Held()) != 3 || two.Places()[0] != at(least, least) {
		t.Error("two streams share what they hold")
	}
	p.handle(t, need(1, upTo(1)))
	p.mark(t, 70)
	if seq, _, _ := two.Last(); two.Next() != 5 || len(two.Held()) != 3 || two.Places()[0] != at(least, least) || seq != 3 {
		t.Error("a stream that was answered goes with the spring")
	}
	scribble(p.s.Stream().Held(), sample(-99, -99))
	scribble(p.s.Stream().Places(), at(-99, -99))
	p.expect(t)
}
