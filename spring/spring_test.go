package spring_test

import (
	"bytes"
	"slices"
	"testing"

	"estuary/api"
	"estuary/diary"
	"estuary/frame"
	"estuary/note"
	"estuary/spring"
	"estuary/tape"
)

// P15.1: the chapter's example.
func TestExample(t *testing.T) {
	s, err := plain().open(tape.New())
	if err != nil {
		t.Fatal(err)
	}
	o, err := s.Emit(5, 1, 7)
	want := api.Op{Seq: 1, Kind: api.OpSample, Time: 5, Key: 1, Value: 7}
	if o != want || err != nil {
		t.Fatal(o, err)
	}
	got := s.Handle(api.Note{Kind: api.NNeed, From: asker, To: self, Nums: []int{1}})
	back := api.Note{Kind: api.NReplay, From: self, To: asker, Nums: []int{1, 1, least, least}, Ops: []api.Op{want}}
	if len(got) != 1 || !note.Same(got[0], back) {
		t.Errorf("%v, want %v", got, back)
	}
}

// P15.1: the bytes of each row, written out.
func TestRowsAreWrittenAsTold(t *testing.T) {
	x := tape.New()
	s, err := plain().open(x)
	if err != nil {
		t.Fatal(err)
	}
	expect := func(want ...[]byte) {
		t.Helper()
		rows, size := frame.Split(x.Read())
		if size != len(x.Read()) || !slices.EqualFunc(rows, want, bytes.Equal) {
			t.Errorf("rows %v, want %v", rows, want)
		}
	}
	first := []byte{1, 2, 1, 2, 1, 2, 1, 10, 1, 1, 2, 88, 2}
	second := []byte{1, 2, 1, 4, 1, 4, 1, 3, 0, 0}
	third := []byte{1, 2, 1, 6, 1, 2, 1, 50, 1, 8, 0}
	s.Emit(5, -1, 300)
	expect(first)
	s.Mark(-2)
	expect(first, second)
	s.Emit(25, 4, 0)
	expect(first, second, third)
	s.Handle(need(1, at(2, -3)))
	expect([]byte{1, 4, 1, 8, 1, 2, 1, 4, 1, 3, 1, 4, 1, 5}, third)
}

// P15.1: the bytes of a base without a mark, written out.
func TestBaseWithoutMark(t *testing.T) {
	x := tape.New()
	s, err := plain().open(x)
	if err != nil {
		t.Fatal(err)
	}
	s.Emit(5, 0, 0)
	s.Handle(need(1, at(1, 0)))
	rows, _ := frame.Split(x.Read())
	if len(rows) != 1 || !bytes.Equal(rows[0], []byte{1, 4, 1, 4, 0, 0, 0, 1, 2, 0}) {
		t.Error(rows)
	}
}

// P15.1: Open at the numbers of nodes, whose notes are answered then, and whose answers come from it.
func TestOpenByNode(t *testing.T) {
	a := plain()
	for _, a.node = range []int{0, 1, 2, 500, 998, 999} {
		p := both(t, a)
		n := need(1)
		n.To = a.node
		if got := p.handle(t, n); len(got) != 1 || got[0].From != a.node || got[0].To != asker {
			t.Errorf("spring %d answers %v", a.node, got)
		}
	}
	for _, a.node = range []int{-1, 1000, 1001, -2, -999, -1000, 1 << 32, 1<<32 + 5, least, least + 5, greatest} {
		if err := on(t, a).reopen(t); err != errForm {
			t.Errorf("Open of node %d: %v", a.node, err)
		}
	}
}

// P15.1: Open at numbers of operations of a replay.
func TestOpenByChunk(t *testing.T) {
	a := plain()
	a.hold = 64
	for a.chunk = 1; a.chunk <= 16; a.chunk++ {
		p := both(t, a)
		for i := range 40 {
			p.emit(t, i, 0, i)
		}
		if got := p.handle(t, need(3)); len(got) != 1 || len(got[0].Ops) != a.chunk || got[0].Nums[1] != 2+a.chunk {
			t.Errorf("a chunk of %d answers %v", a.chunk, got)
		}
	}
	for _, a.chunk = range []int{0, 17, -1, 18, 64, 1 << 32, 1<<32 + 5, least, least + 5, greatest} {
		if err := on(t, a).reopen(t); err != errForm {
			t.Errorf("Open of chunk %d: %v", a.chunk, err)
		}
	}
}

// P15.1: Open at all that layer 14's New takes and refuses, at the edges.
func TestOpenByShape(t *testing.T) {
	lists := [][]int{nil, {}, {0}, {-1}, {least}, {1}, {greatest}, {10, 0}, {10, 10}, {0, 10}, {3, 2, 1}, {3, 2, 0}, {3, -2, 1}, {1, 2, 3, 4}}
	numbers := []int{least, -1, 0, 1, 2, 4, 5, 63, 64, 65, 1<<32 + 1, greatest}
	good := 0
	for _, res := range lists {
		for _, shards := range numbers {
			for _, hold := range numbers {
				a := setup{self, res, shards, hold, 1}
				want := error(nil)
				if !a.good() {
					want = errForm
				}
				p := on(t, a)
				if err := p.reopen(t); err != want {
					t.Errorf("Open of %v: %v, want %v", a, err, want)
				}
				if want == nil {
					good++
				}
			}
		}
	}
	if good != 4*3*6 {
		t.Errorf("%d of them are good", good)
	}
}

// P15.1: a spring holds as many samples as it is opened with, whatever their number was ahead of that.
func TestOpenByHold(t *testing.T) {
	a := plain()
	x := tape.New()
	for _, a.hold = range []int{64, 1, 63, 2} {
		s, err := a.open(x)
		if err != nil {
			t.Fatal(err)
		}
		for len(s.Stream().Held()) < a.hold {
			if _, err := s.Emit(1, 2, 3); err != nil {
				t.Fatalf("hold %d: %v", a.hold, err)
			}
		}
		if _, err := s.Emit(1, 2, 3); err != errBackpressure {
			t.Errorf("hold %d: %v", a.hold, err)
		}
	}
}

// torn is a tape with a sample, and the first bytes of another row's frame behind it.
func torn(t *testing.T, keep int) *tape.Tape {
	t.Helper()
	x := laid(t, op(sample(1, 5)))
	framed, err := frame.Wrap(op(sample(2, 6)))
	if err != nil || keep >= len(framed) {
		t.Fatal(err, keep)
	}
	if err := x.Append(framed[:keep]); err != nil {
		t.Fatal(err)
	}
	return x
}

// P15.1: wrong numbers are told ahead of what is wrong with the tape, which isn't touched then.
func TestOpenTellsNumbersFirst(t *testing.T) {
	wrong := []setup{
		{-1, []int{10}, 1, 3, 2}, {1000, []int{10}, 1, 3, 2}, {self, nil, 1, 3, 2}, {self, []int{0}, 1, 3, 2},
		{self, []int{10}, 5, 3, 2}, {self, []int{10}, 1, 65, 2}, {self, []int{10}, 1, 3, 0}, {self, []int{10}, 1, 3, 17},
	}
	for _, a := range wrong {
		if s, err := a.open(nil); s != nil || err != errForm {
			t.Errorf("Open of %v and nil: %v, %v", a, s, err)
		}
		p := &pair{setup: a, x: torn(t, 9), y: torn(t, 9)}
		for _, do := range []func(x *tape.Tape){
			func(x *tape.Tape) {},
			func(x *tape.Tape) { x.Fail(0) },
			func(x *tape.Tape) { x.Arm(0) },
			func(x *tape.Tape) { x.Sync() },
		} {
			p.each(do)
			if err := p.reopen(t); err != errForm {
				t.Errorf("Open of %v: %v", a, err)
			}
		}
		if !p.x.Down() {
			t.Error("the power isn't gone")
		}
	}
}

// P15.1: Open of a nil tape, of one whose power is gone, of a new one and of torn ones.
func TestOpenByTape(t *testing.T) {
	if s, err := plain().open(nil); s != nil || err != errDown {
		t.Errorf("of nil: %v, %v", s, err)
	}
	p := both(t, plain())
	p.each(func(x *tape.Tape) { x.Arm(0); x.Sync() })
	if err := p.reopen(t); err != errDown {
		t.Errorf("of one that is down: %v", err)
	}
	// What is wrong with the rows is told behind that.
	p = on(t, plain(), []byte{9})
	p.each(func(x *tape.Tape) { x.Arm(0); x.Sync() })
	if err := p.reopen(t); err != errDown {
		t.Errorf("of wrong rows on one that is down: %v", err)
	}
	for keep := range 18 {
		p = &pair{setup: plain(), x: torn(t, keep), y: torn(t, keep)}
		if err := p.reopen(t); err != nil || p.s.Rows() != 1 || p.s.Stream().Next() != 2 {
			t.Errorf("of %d bytes more: %v, %d rows", keep, err, p.s.Rows())
		}
		p.emit(t, 7, 8, 9)
		if err := p.reopen(t); err != nil || p.s.Rows() != 2 {
			t.Errorf("behind a row more: %v, %d rows", err, p.s.Rows())
		}
	}
}

// P15.1: where the tape is torn and refuses, or its power goes, Open answers that; it is opened later.
func TestOpenWhereTheTapeRefuses(t *testing.T) {
	p := &pair{setup: plain(), x: torn(t, 9), y: torn(t, 9)}
	p.each(func(x *tape.Tape) { x.Fail(0) })
	if err := p.reopen(t); err != errDisk {
		t.Error(err)
	}
	p.each(func(x *tape.Tape) { x.Arm(0) })
	for range 2 {
		if err := p.reopen(t); err != errDown {
			t.Error(err)
		}
	}
	p.each(func(x *tape.Tape) { x.Crash(greatest) })
	if err := p.reopen(t); err != nil || p.s.Rows() != 1 {
		t.Error(err)
	}
	// A tape that isn't torn isn't written at all.
	p.each(func(x *tape.Tape) { x.Arm(0); x.Fail(0) })
	if err := p.reopen(t); err != nil || p.s.Rows() != 1 {
		t.Error(err)
	}
}

// P15.1: Open of operations from 1 on: samples and marks, at the edges, and more samples than may be held.
func TestOpenOfOperations(t *testing.T) {
	for _, list := range [][]api.Op{
		{},
		{sample(1, 5)},
		{mark(1, 5)},
		{mark(1, least), sample(2, least), mark(3, least), mark(4, greatest), sample(5, greatest), mark(6, greatest)},
		{sample(1, greatest), mark(2, 0), sample(3, 0), mark(4, 0), sample(5, 7), mark(6, 1)},
		{sampleOf(1, least, least), sampleOf(2, greatest, greatest)},
		{sample(1, 1), sample(2, 2), sample(3, 3), sample(4, 4), sample(5, 5)},
	} {
		for _, a := range []setup{plain(), wide()} {
			p := both(t, a, ops(list...)...)
			if p.s.Rows() != len(list) || p.s.Stream().Next() != len(list)+1 {
				t.Errorf("of %v: %d rows, next is %d", list, p.s.Rows(), p.s.Stream().Next())
			}
			for from := -1; from < 8; from++ {
				p.handle(t, need(from))
			}
			p.emit(t, greatest, 1, 2)
			p.mark(t, greatest)
			if err := p.reopen(t); err != nil {
				t.Error(err)
			}
		}
	}
}

// P15.1: Open of a base with and without a mark, with none and some samples, with operations behind them and without.
func TestOpenOfBases(t *testing.T) {
	for _, c := range []struct {
		base          []byte
		samples, more []api.Op
		next          int
	}{
		{unmarked(1, upTo(0)), nil, nil, 1},
		{unmarked(1, upTo(0)), nil, []api.Op{sample(1, 5), mark(2, 6)}, 3},
		{unmarked(9, at(least, least)), nil, nil, 9},
		{unmarked(9, at(greatest, greatest)), nil, []api.Op{mark(9, least)}, 10},
		{unmarked(3, upTo(0)), []api.Op{sample(1, 5), sample(2, 4)}, nil, 3},
		{unmarked(9, upTo(0)), []api.Op{sample(3, 5), sample(8, 4)}, []api.Op{sample(9, 0)}, 10},
		{marked(2, mark(1, 5), upTo(0)), nil, nil, 2},
		{marked(2, mark(1, least), upTo(0)), nil, []api.Op{mark(2, least), sample(3, least)}, 4},
		{marked(9, mark(4, 5), upTo(0)), []api.Op{sample(2, 0), sample(3, 4), sample(7, 5)}, nil, 9},
		{marked(9, mark(8, 5), upTo(0)), []api.Op{sample(2, 0), sample(7, 4)}, []api.Op{sample(9, 5), mark(10, 6), mark(11, 6)}, 12},
		{marked(9, mark(4, 0), upTo(0)), []api.Op{sample(5, 0), sample(8, 9)}, []api.Op{sample(9, 0), sample(10, 0)}, 11},
		// Samples that the cut covers are held, too.
		{unmarked(9, upTo(5)), []api.Op{sample(1, 5), sample(2, 49), sample(3, 50)}, []api.Op{sample(9, 0)}, 10},
		// More than may be held.
		{unmarked(9, upTo(0)), []api.Op{sample(1, 5), sample(2, 5), sample(3, 5), sample(4, 5)}, []api.Op{sample(9, 0)}, 10},
	} {
		p := both(t, plain(), slices.Concat([][]byte{c.base}, ops(c.samples...), ops(c.more...))...)
		if s := p.s.Stream(); s.Next() != c.next || p.s.Rows() != 1+len(c.samples)+len(c.more) {
			t.Errorf("of %v, %v, %v: %d rows, next is %d", c.base, c.samples, c.more, p.s.Rows(), s.Next())
		}
		for from := -1; from < 12; from++ {
			p.handle(t, need(from))
		}
		p.emit(t, 70, 1, 2)
		p.mark(t, 80)
		p.handle(t, need(1, upTo(5)))
		p.handle(t, need(1, upTo(9)))
		p.mark(t, 90)
		if err := p.reopen(t); err != nil {
			t.Error(err)
		}
	}
}

// P15.1: a base of several lanes tells a place of each one.
func TestOpenOfBasesOfManyLanes(t *testing.T) {
	a := setup{self, []int{10, 60, 3600}, 4, 64, 16}
	var places []api.Place
	for lane := range 12 {
		places = append(places, at(greatest-lane, least+lane))
	}
	p := both(t, a, marked(9, mark(4, 5), places...), op(sample(2, 5)))
	if got := p.s.Stream().Places(); !slices.Equal(got, places) {
		t.Errorf("%v, want %v", got, places)
	}
	for lane := range 12 {
		if got := p.handle(t, need(0))[0].Nums[2+2*lane:]; got[0] != greatest-lane || got[1] != least+lane {
			t.Errorf("lane %d: %v", lane, got)
		}
	}
	for count := range 14 {
		p := on(t, a, unmarked(9, repeat(upTo(0), count)...))
		want := errForm
		if err := p.reopen(t); (err == nil) != (count == 12) || err != nil && err != want {
			t.Errorf("of %d places: %v", count, err)
		}
	}
}

// wrongRows is rows that tell neither an operation nor a base, wherever they stand.
func wrongRows() [][]byte {
	good := op(sample(1, 5))
	base := unmarked(1, upTo(0))
	return [][]byte{
		nil, {0}, {9}, {1}, {2, 1}, spelled(1), spelled(2),
		// Bytes that no number has.
		append(slices.Clone(good), 9), append(slices.Clone(good), 1),
		append([]byte{2, 2, 0}, good[2:]...), append([]byte{2, 4, 0}, base[2:]...),
		append(slices.Clone(base), 9), append(slices.Clone(base), 8, 1, 2, 3),
		good[:len(good)-1], base[:len(base)-1],
		// A number more, or less.
		append(slices.Clone(good), 0), append(slices.Clone(base), 0), append(slices.Clone(base), 0, 0),
		spelled(1, 1, 1, 5, 0), spelled(2, 1, 0, 0, 0), spelled(2, 1, 0, 0), spelled(2, 1, 0, 0, 0, 0),
		spelled(slices.Repeat([]int{1}, 2000)...), spelled(slices.Repeat([]int{2}, 2000)...),
		spelled(append([]int{2, 1, 0, 0, 0}, slices.Repeat([]int{0}, 26)...)...),
		// Another number ahead of it.
		spelled(0, 1, 1, 5, 0, 0), spelled(3, 1, 1, 5, 0, 0), spelled(-1, 1, 1, 5, 0, 0), spelled(1<<32+1, 1, 1, 5, 0, 0),
		spelled(2, 1, 1, 5, 0, 0), spelled(1, 1, 0, 0, 0, 0, least), spelled(0, 1, 0, 0, 0, 0, least), spelled(1<<32+2, 1, 0, 0, 0, 0, least),
		// A wrong kind.
		op(api.Op{Seq: 1}), op(api.Op{Seq: 1, Kind: 3}), op(api.Op{Seq: 1, Kind: -1}), op(api.Op{Seq: 1, Kind: 1<<32 + 1}),
		// A mark with a key or a value.
		op(api.Op{Seq: 1, Kind: isMark, Key: 1}), op(api.Op{Seq: 1, Kind: isMark, Value: 1}),
		// A base whose mark is neither there nor not.
		spelled(2, 5, 2, 3, 3, 0, 0), spelled(2, 5, -1, 3, 3, 0, 0), spelled(2, 5, 1<<32, 3, 3, 0, 0), spelled(2, 5, 1<<32+1, 3, 3, 0, 0),
		spelled(2, 5, 0, 3, 0, 0, 0), spelled(2, 5, 0, 0, 3, 0, 0), spelled(2, 5, 0, 3, 3, 0, 0),
		// A mark of a number that was never.
		spelled(2, 5, 1, 0, 0, 0, 0), spelled(2, 5, 1, -1, 0, 0, 0), spelled(2, 5, 1, 5, 0, 0, 0), spelled(2, 5, 1, 6, 0, 0, 0),
		spelled(2, 1, 1, 1, 0, 0, 0), spelled(2, 1, 1, 0, 0, 0, 0), spelled(2, 5, 1, least, 0, 0, 0), spelled(2, 5, 1, greatest, 0, 0, 0),
		// A next number that is none.
		unmarked(0, upTo(0)), unmarked(-1, upTo(0)), unmarked(least, upTo(0)),
	}
}

// P15.1: a row that tells nothing is refused wherever it stands, and the tape stays as it is.
func TestOpenRefusesWrongRows(t *testing.T) {
	for _, wrong := range wrongRows() {
		for _, rows := range [][][]byte{
			{wrong},
			{op(sample(1, 5)), wrong},
			{wrong, op(sample(1, 5))},
			{op(mark(1, 5)), wrong, op(sample(2, 5))},
			{unmarked(1, upTo(0)), wrong},
			{unmarked(3, upTo(0)), op(sample(1, 5)), wrong},
			{unmarked(3, upTo(0)), op(sample(1, 5)), wrong, op(sample(2, 5))},
			{unmarked(3, upTo(0)), op(sample(1, 5)), op(sample(3, 5)), wrong},
		} {
			p := on(t, plain(), rows...)
			was := p.x.Read()
			if err := p.reopen(t); err != errForm || !bytes.Equal(p.x.Read(), was) {
				t.Errorf("of the rows %v: %v", rows, err)
			}
		}
	}
}

// P15.1: rows that stand alone and aren't as told together: a base that isn't first, a missing sample, numbers that are left out or come twice, operations that Put refuses.
func TestOpenRefusesRowsTogether(t *testing.T) {
	zero := upTo(0)
	for _, rows := range [][][]byte{
		// A base that isn't first.
		{op(sample(1, 5)), unmarked(2, zero)},
		{op(mark(1, 5)), marked(2, mark(1, 5), zero)},
		{unmarked(1, zero), unmarked(1, zero)},
		{unmarked(3, zero), op(sample(1, 5)), unmarked(3, zero)},
		{unmarked(3, zero), op(sample(3, 5)), unmarked(4, zero), op(sample(3, 5))},
		// A missing sample, and numbers that are left out.
		ops(sample(2, 5)), ops(mark(2, 5)), ops(sample(0, 5)), ops(sample(-1, 5)),
		ops(sample(1, 5), sample(3, 5)), ops(mark(1, 5), mark(2, 5), sample(4, 5)),
		append([][]byte{unmarked(3, zero)}, ops(sample(1, 5), sample(4, 5))...),
		append([][]byte{unmarked(3, zero)}, ops(sample(3, 5), sample(5, 5))...),
		append([][]byte{unmarked(3, zero)}, ops(mark(4, 5))...),
		// Numbers that come twice, or go back.
		ops(sample(1, 5), sample(1, 5)), ops(sample(1, 5), sample(2, 5), sample(1, 5)), ops(sample(1, 5), mark(1, 5)),
		append([][]byte{unmarked(3, zero)}, ops(sample(1, 5), sample(1, 5))...),
		append([][]byte{unmarked(3, zero)}, ops(sample(2, 5), sample(1, 5))...),
		append([][]byte{unmarked(3, zero)}, ops(sample(3, 5), sample(3, 5))...),
		append([][]byte{unmarked(3, zero)}, ops(sample(3, 5), sample(1, 5))...),
		append([][]byte{unmarked(3, zero)}, ops(sample(0, 5))...),
		append([][]byte{unmarked(3, zero)}, ops(sample(-1, 5))...),
		append([][]byte{marked(3, mark(2, 5), zero)}, ops(sample(2, 5))...),
		// Marks where samples of a base stand.
		append([][]byte{unmarked(3, zero)}, ops(mark(1, 5))...),
		append([][]byte{marked(3, mark(1, 5), zero)}, ops(mark(1, 5))...),
		append([][]byte{marked(3, mark(1, 5), zero)}, ops(mark(2, 5))...),
		// What is late, and what goes back.
		ops(mark(1, 5), sample(2, 4)), ops(mark(1, 5), mark(2, 4)), ops(mark(1, greatest), sample(2, least)),
		append([][]byte{marked(3, mark(1, 5), zero)}, ops(sample(2, 4))...),
		append([][]byte{marked(3, mark(1, 5), zero)}, ops(sample(3, 4))...),
		append([][]byte{marked(3, mark(1, 5), zero)}, ops(mark(3, 4))...),
		append([][]byte{unmarked(3, zero)}, ops(mark(3, 4), sample(4, 3))...),
	} {
		p := on(t, plain(), rows...)
		was := p.x.Read()
		if err := p.reopen(t); err != errForm || !bytes.Equal(p.x.Read(), was) {
			t.Errorf("of the rows %v: %v", rows, err)
		}
	}
}

// P15.1: a base doesn't tell how many samples were held: one that isn't there counts as dropped.
func TestOpenOfBasesWithFewerSamples(t *testing.T) {
	all := []api.Op{sample(1, 5), sample(2, 6), sample(4, 9), sample(5, 5)}
	for set := range 16 {
		var held []api.Op
		for i, o := range all {
			if set>>i&1 == 1 {
				held = append(held, o)
			}
		}
		p := both(t, plain(), append([][]byte{marked(6, mark(3, 5), upTo(0))}, ops(held...)...)...)
		if got := p.s.Stream().Held(); !slices.Equal(got, held) {
			t.Errorf("%v, want %v", got, held)
		}
	}
}

// P15.1: all short rows out of a few operations and bases: just those open that are as told.
func TestOpenOfAllShortRows(t *testing.T) {
	rows := ops(sample(1, 5), mark(1, 5), sample(2, 4), mark(2, 6), sample(3, 5), mark(3, 5), sample(4, 6), mark(4, 4))
	rows = append(rows, unmarked(1, upTo(0)), unmarked(3, upTo(0)), marked(3, mark(1, 5), upTo(1)), marked(4, mark(2, 6), upTo(1)))
	good, wrong := 0, 0
	var try func(list [][]byte)
	try = func(list [][]byte) {
		if on(t, plain(), list...).reopen(t) == nil {
			good++
		} else {
			wrong++
		}
		if len(list) < 4 {
			for _, row := range rows {
				try(append(slices.Clone(list), row))
			}
		}
	}
	try(nil)
	if good < 40 || wrong < 10000 {
		t.Errorf("%d of them are as told, %d aren't", good, wrong)
	}
}

// P15.1: rows that one shape wrote open in another one just where there is no base, or as many lanes.
func TestOpenInAnotherShape(t *testing.T) {
	x := tape.New()
	s, err := plain().open(x)
	if err != nil {
		t.Fatal(err)
	}
	s.Emit(5, 1, 7)
	s.Emit(15, 1, 7)
	other := plain()
	other.res = []int{10, 20}
	if _, err := other.open(x); err != nil {
		t.Errorf("without a base: %v", err)
	}
	s.Handle(need(1, upTo(1)))
	if _, err := other.open(x); err != errForm {
		t.Errorf("with a base of another number of lanes: %v", err)
	}
	other.res, other.hold, other.chunk, other.node = []int{60}, 9, 9, 9
	if _, err := other.open(x); err != nil {
		t.Errorf("with a base of as many lanes: %v", err)
	}
}

// P15.1: Emit and Mark with each of their errors, in their order.
func TestErrors(t *testing.T) {
	p := both(t, plain())
	for i := range 3 {
		if o, err := p.emit(t, 10+i, i, -i); err != nil || o.Seq != i+1 {
			t.Fatal(o, err)
		}
	}
	expect := func(what string, err, want error) {
		t.Helper()
		if err != want {
			t.Errorf("%s: %v, want %v", what, err, want)
		}
	}
	for _, do := range []func(x *tape.Tape){
		func(x *tape.Tape) {},
		func(x *tape.Tape) { x.Fail(0) },
		func(x *tape.Tape) { x.Arm(0) },
		func(x *tape.Tape) { x.Sync() },
	} {
		p.each(do)
		_, err := p.emit(t, greatest, 0, 0)
		expect("a sample too many", err, errBackpressure)
	}
	p.each(func(x *tape.Tape) { x.Crash(0) })
	o, err := p.mark(t, 20)
	expect("a mark", err, nil)
	if o != mark(4, 20) {
		t.Error(o)
	}
	for _, do := range []func(x *tape.Tape){
		func(x *tape.Tape) {},
		func(x *tape.Tape) { x.Fail(0) },
		func(x *tape.Tape) { x.Arm(0) },
		func(x *tape.Tape) { x.Sync() },
	} {
		p.each(do)
		_, err = p.emit(t, 19, 0, 0)
		expect("a late sample, ahead of one too many", err, errLate)
		_, err = p.mark(t, 19)
		expect("a mark that goes back", err, errRegress)
		_, err = p.emit(t, 20, 0, 0)
		expect("a sample too many", err, errBackpressure)
	}
	_, err = p.mark(t, 20)
	expect("a mark without power", err, errDown)
	p.each(func(x *tape.Tape) { x.Crash(0) })
	p.handle(t, need(1, upTo(2)))
	p.each(func(x *tape.Tape) { x.Fail(0) })
	_, err = p.emit(t, 20, 0, 0)
	expect("a sample that the disk refuses", err, errDisk)
	p.each(func(x *tape.Tape) { x.Fail(1) })
	_, err = p.mark(t, 20)
	expect("a mark that the disk refuses", err, errDisk)
	o, err = p.emit(t, 20, 4, 4)
	expect("the next sample", err, nil)
	if o.Seq != 5 {
		t.Errorf("its number is %d", o.Seq)
	}
	for range 2 {
		p.each(func(x *tape.Tape) { x.Arm(1) })
		_, err = p.emit(t, 20, 5, 5)
		expect("a sample without power", err, errDown)
	}
}

// P15.1: samples and marks at the edges of numbers.
func TestEdgesOfNumbers(t *testing.T) {
	p := both(t, setup{self, []int{1, greatest}, 3, 64, 16})
	edges := []int{least, least + 1, -1, 0, 1, greatest - 1, greatest}
	for _, time := range edges {
		for _, key := range edges {
			if _, err := p.emit(t, time, key, time^key); err != nil {
				t.Fatal(err)
			}
		}
	}
	for _, time := range edges {
		p.mark(t, time)
		p.mark(t, time)
		if time > least {
			if _, err := p.mark(t, time-1); err != errRegress {
				t.Error(err)
			}
			if _, err := p.emit(t, time-1, 0, 0); err != errLate {
				t.Error(err)
			}
		}
		p.emit(t, time, 0, 0)
	}
	for _, from := range edges {
		p.handle(t, need(from))
	}
	if err := p.reopen(t); err != nil {
		t.Fatal(err)
	}
	for _, win := range edges {
		for _, key := range edges {
			p.handle(t, need(1, repeat(at(win, key), 6)...))
			if err := p.reopen(t); err != nil {
				t.Fatal(err)
			}
		}
	}
}

// P15.1: numbers behind a base whose next one is near the greatest: the numbers wrap around, and the rows open again.
func TestGreatestNumbers(t *testing.T) {
	p := both(t, plain(), unmarked(greatest-1, upTo(0)), op(sample(greatest-2, 3)))
	for i, want := range []int{greatest - 1, greatest, least} {
		o, err := p.mark(t, i)
		if err != nil || o.Seq != want {
			t.Errorf("%v, %v, want the number %d", o, err, want)
		}
		p.handle(t, need(greatest-2))
		p.handle(t, need(least))
		if err := p.reopen(t); err != nil {
			t.Error(err)
		}
	}
}

// P15.1: a nil spring.
func TestNil(t *testing.T) {
	var s *spring.Spring
	for _, time := range []int{least, -1, 0, 5, greatest} {
		if o, err := s.Emit(time, 1, 2); o != (api.Op{}) || err != errDown {
			t.Errorf("Emit: %v, %v", o, err)
		}
		if o, err := s.Mark(time); o != (api.Op{}) || err != errDown {
			t.Errorf("Mark: %v, %v", o, err)
		}
	}
	for _, n := range []api.Note{{}, need(1), need(1, upTo(0)), {Kind: isNeed, Nums: []int{1}}} {
		if got := s.Handle(n); len(got) != 0 {
			t.Error(got)
		}
	}
	if s.Stream() != nil || s.Rows() != 0 {
		t.Error(s.Stream(), s.Rows())
	}
}

// P15.1: springs on tapes of their own know nothing of each other.
func TestApart(t *testing.T) {
	a, b := both(t, plain()), both(t, plain())
	a.emit(t, 5, 1, 7)
	b.mark(t, 9)
	b.emit(t, 9, 1, 8)
	a.emit(t, 5, 1, 8)
	a.handle(t, need(1, upTo(1)))
	b.expect(t)
	b.handle(t, need(1))
	a.expect(t)
}

// P15.1: what is emitted stands in the rows, one behind the other, as Open reads them.
func TestRowsAddUp(t *testing.T) {
	p := both(t, wide())
	for i := range 100 {
		p.mark(t, i)
		if p.s.Rows() != i+1 {
			t.Fatalf("%d rows", p.s.Rows())
		}
	}
	_, rows, err := diary.Open(p.x)
	if err != nil || len(rows) != 100 {
		t.Errorf("%d rows, %v", len(rows), err)
	}
}
