package gate_test

import (
	"slices"
	"testing"

	"estuary/api"
	"estuary/basin"
	"estuary/gate"
)

// P17.1: the document's numbers are those of package api.
func TestNumbers(t *testing.T) {
	if api.OpSample != isSample || api.OpMark != isMark || api.NBatch != isBatch {
		t.Error("the kinds")
	}
	if api.ErrForm != errForm || api.MaxEntries != mostEntries {
		t.Error("the error, or the limit")
	}
}

// P17.1: the chapter's example.
func TestExample(t *testing.T) {
	b, err := basin.New(1, []int{10}, 1, 9)
	if err != nil {
		t.Fatal(err)
	}
	ops := []api.Op{
		{Seq: 1, Kind: isSample, Time: 5, Key: 4, Value: 1},
		{Seq: 2, Kind: isSample, Time: 10, Key: 1, Value: 2},
		{Seq: 3, Kind: isSample, Time: 9, Key: 1, Value: 3},
		{Seq: 4, Kind: isMark, Time: 20},
	}
	if err := b.Feed(0, 1, 4, []api.Place{upTo(least)}, ops); err != nil {
		t.Fatal(err)
	}
	x, ok := gate.Next(b, 1, 0, 2)
	if !ok || x.From != upTo(least) || x.To != at(0, 5) || len(x.Entries) != 2 {
		t.Fatal(short(x), ok)
	}
	if x.Entries[0].Place != at(0, 1) || x.Entries[0].Cell.Max != 3 || x.Entries[1].Place != at(0, 4) || x.Entries[1].Cell.Max != 1 {
		t.Error(x.Entries)
	}
	if _, err := b.Raise(0, x.To); err != nil {
		t.Fatal(err)
	}
	x, ok = gate.Next(b, 1, 0, 2)
	if !ok || x.From != at(0, 5) || x.To != upTo(2) || len(x.Entries) != 1 || x.Entries[0].Place != at(1, 1) || x.Entries[0].Cell.Max != 2 {
		t.Error(x, ok)
	}
}

// P17.1: Check of batches whose epochs and lanes are at their edges.
func TestCheckEpochsAndLanes(t *testing.T) {
	for epoch, goodEpoch := range map[int]bool{least: false, -1: false, 0: false, 1: true, 2: true, greatest: true} {
		for lane, goodLane := range map[int]bool{least: false, -1: false, 0: true, 1: true, 11: true, 12: true, greatest: true} {
			for _, list := range [][]api.Entry{nil, {}, counted(1)} {
				b := api.Batch{Epoch: epoch, Lane: lane, From: at(0, 0), To: at(0, 9), Entries: list}
				expectCheck(t, b)
				if got := gate.Check(b) == nil; got != (goodEpoch && goodLane) {
					t.Errorf("Check(%v): %v", short(b), got)
				}
			}
		}
	}
}

// P17.1: Check of batches whose To is ahead of, at and behind their From.
func TestCheckFromAndTo(t *testing.T) {
	for _, c := range []struct {
		from, to api.Place
		good     bool
	}{
		{at(0, 0), at(0, -1), false},
		{at(0, 0), at(-1, 0), false},
		{at(0, 0), at(-1, greatest), false},
		{at(0, 0), upTo(0), false},
		{at(greatest, greatest), upTo(least), false},
		{at(greatest, greatest), at(greatest, greatest-1), false},
		{at(least, least+1), upTo(least), false},
		{at(0, 0), at(0, 0), true},
		{upTo(least), upTo(least), true},
		{at(greatest, greatest), at(greatest, greatest), true},
		{at(0, 0), at(0, 1), true},
		{at(0, 0), upTo(1), true},
		{at(0, greatest), upTo(1), true},
		{upTo(least), at(greatest, greatest), true},
	} {
		b := batch(c.from, c.to)
		expectCheck(t, b)
		if got := gate.Check(b) == nil; got != c.good {
			t.Errorf("Check(%v): %v", short(b), got)
		}
		// Where there is no place between them, there is no entry in form.
		if c.good && c.from != c.to {
			continue
		}
		for _, p := range []api.Place{c.from, c.to} {
			if err := gate.Check(batch(c.from, c.to, entry(p))); err != errForm {
				t.Errorf("Check with an entry at %v, from %v to %v: %v", p, c.from, c.to, err)
			}
		}
	}
}

// P17.1: Check takes 16 entries and no more.
func TestCheckCountsEntries(t *testing.T) {
	for n := range 40 {
		b := batch(at(0, 0), at(0, 99), counted(n)...)
		expectCheck(t, b)
		if got := gate.Check(b) == nil; got != (n <= 16) {
			t.Errorf("Check of %d entries: %v", n, got)
		}
	}
	if err := gate.Check(batch(at(0, 0), upTo(1), counted(5000)...)); err != errForm {
		t.Error(err)
	}
}

// P17.1: Check of entries that lie ahead of From, at it, between, at To and behind it.
func TestCheckWhereEntriesLie(t *testing.T) {
	from, to := at(2, 5), at(4, 7)
	for p, good := range map[api.Place]bool{
		upTo(least):            false,
		at(1, greatest):        false,
		at(1, 6):               false,
		upTo(2):                false,
		at(2, 4):               false,
		at(2, 5):               true,
		at(2, 6):               true,
		at(2, greatest):        true,
		upTo(3):                true,
		at(3, 0):               true,
		at(3, greatest):        true,
		upTo(4):                true,
		at(4, 6):               true,
		at(4, 7):               false,
		at(4, 8):               false,
		at(4, greatest):        false,
		upTo(5):                false,
		at(5, 0):               false,
		at(greatest, greatest): false,
	} {
		for _, list := range [][]api.Entry{{entry(p)}, {entry(from), entry(p)}, {entry(p), entry(at(4, 6))}} {
			b := batch(from, to, list...)
			expectCheck(t, b)
		}
		if got := gate.Check(batch(from, to, entry(p))) == nil; got != good {
			t.Errorf("Check of an entry at %v: %v", p, got)
		}
	}
	// The greatest place is ahead of none.
	end := at(greatest, greatest)
	if err := gate.Check(batch(upTo(least), end, entry(end))); err != errForm {
		t.Error(err)
	}
	if err := gate.Check(batch(upTo(least), end, entry(upTo(least)), entry(at(greatest, greatest-1)))); err != nil {
		t.Error(err)
	}
}

// P17.1: Check of entries whose places don't rise, anywhere among them.
func TestCheckEntriesRise(t *testing.T) {
	for n := 2; n <= 16; n++ {
		rising := batch(upTo(-9), upTo(9), counted(n)...)
		if err := gate.Check(rising); err != nil {
			t.Fatal(n, err)
		}
		for i := range n {
			for j := range i {
				swapped, twice := cloned(rising), cloned(rising)
				swapped.Entries[i], swapped.Entries[j] = swapped.Entries[j], swapped.Entries[i]
				twice.Entries[i] = twice.Entries[j]
				for _, b := range []api.Batch{swapped, twice} {
					if err := gate.Check(b); err != errForm {
						t.Errorf("Check(%v): %v", short(b), err)
					}
				}
			}
		}
	}
	for _, list := range [][]api.Entry{
		entries(at(1, 0), at(0, 1)),
		entries(at(0, 5), at(0, 4)),
		{{Place: at(0, 5), Cell: some(1)}, {Place: at(0, 5), Cell: some(2)}},
		entries(at(0, 0), at(0, 2), at(0, 1)),
	} {
		if err := gate.Check(batch(upTo(-9), upTo(9), list...)); err != errForm {
			t.Errorf("Check(%v): %v", list, err)
		}
	}
	if err := gate.Check(batch(upTo(-9), upTo(9), entries(at(0, 5), at(1, 4), at(1, greatest), upTo(2))...)); err != nil {
		t.Error(err)
	}
}

// near is cells that are the unit but for one number.
func near() []api.Cell {
	list := []api.Cell{
		{Count: 1}, {Count: -1}, {Sum: api.Wide{Hi: 1}}, {Sum: api.Wide{Lo: 1}}, {Min: 1}, {Max: 1},
		{Last: api.Last{Time: 1}}, {Last: api.Last{Source: 1}}, {Last: api.Last{Seq: 1}}, {Last: api.Last{Value: 1}},
	}
	for b := range 65 {
		var c api.Cell
		c.Hist[b] = 1
		list = append(list, c)
	}
	return list
}

// P17.1: Check takes no unit cell, anywhere; what differs from it by one number isn't the unit.
func TestCheckUnit(t *testing.T) {
	for n := 1; n <= 16; n++ {
		for i := range n {
			b := batch(at(0, 0), at(0, 99), counted(n)...)
			b.Entries[i].Cell = api.Cell{}
			if err := gate.Check(b); err != errForm {
				t.Errorf("Check with the unit at %d of %d: %v", i, n, err)
			}
		}
	}
	for _, c := range near() {
		if err := gate.Check(batch(at(0, 0), at(0, 1), api.Entry{Place: at(0, 0), Cell: c})); err != nil {
			t.Errorf("Check with %v: %v", c, err)
		}
	}
}

// P17.1: Check of all batches of up to three entries at few places, with cells and without.
func TestCheckAllShortBatches(t *testing.T) {
	places := []api.Place{upTo(least), at(least, greatest), at(0, 0), at(greatest, greatest)}
	var choices []api.Entry
	for _, p := range places {
		choices = append(choices, entry(p), api.Entry{Place: p})
	}
	good := 0
	var grow func(list []api.Entry)
	grow = func(list []api.Entry) {
		for _, from := range places {
			for _, to := range places {
				b := batch(from, to, list...)
				expectCheck(t, b)
				if inForm(b) {
					good++
				}
			}
		}
		if len(list) == 3 {
			return
		}
		for _, e := range choices {
			grow(append(slices.Clone(list), e))
		}
	}
	grow(nil)
	if good < 20 {
		t.Error("too few batches in form:", good)
	}
}

// P17.1: where several things are wrong, it is ErrForm all the same; the zero batch isn't in form.
func TestCheckOfManyFaults(t *testing.T) {
	for _, b := range []api.Batch{
		{},
		{Lane: -1, From: at(1, 0), Entries: counted(17)},
		{Epoch: least, Lane: least, To: upTo(least), Entries: make([]api.Entry, 20)},
	} {
		if err := gate.Check(b); err != errForm {
			t.Errorf("Check(%v): %v", short(b), err)
		}
	}
}

// changed is batches that differ from one of two entries by one number each.
func changed(b api.Batch) []api.Batch {
	var list []api.Batch
	change := func(f func(b *api.Batch)) {
		other := cloned(b)
		f(&other)
		list = append(list, other)
	}
	change(func(b *api.Batch) { b.Epoch++ })
	change(func(b *api.Batch) { b.Lane++ })
	change(func(b *api.Batch) { b.From.Win++ })
	change(func(b *api.Batch) { b.From.Key++ })
	change(func(b *api.Batch) { b.To.Win++ })
	change(func(b *api.Batch) { b.To.Key++ })
	change(func(b *api.Batch) { b.Entries = b.Entries[:1] })
	change(func(b *api.Batch) { b.Entries = b.Entries[1:] })
	change(func(b *api.Batch) { b.Entries = nil })
	change(func(b *api.Batch) { b.Entries = append(b.Entries, api.Entry{}) })
	change(func(b *api.Batch) { slices.Reverse(b.Entries) })
	for i := range b.Entries {
		change(func(b *api.Batch) { b.Entries[i].Win++ })
		change(func(b *api.Batch) { b.Entries[i].Key++ })
		change(func(b *api.Batch) { b.Entries[i].Cell.Count++ })
		change(func(b *api.Batch) { b.Entries[i].Cell.Sum.Hi++ })
		change(func(b *api.Batch) { b.Entries[i].Cell.Sum.Lo++ })
		change(func(b *api.Batch) { b.Entries[i].Cell.Min++ })
		change(func(b *api.Batch) { b.Entries[i].Cell.Max++ })
		change(func(b *api.Batch) { b.Entries[i].Cell.Last.Time++ })
		change(func(b *api.Batch) { b.Entries[i].Cell.Last.Source++ })
		change(func(b *api.Batch) { b.Entries[i].Cell.Last.Seq++ })
		change(func(b *api.Batch) { b.Entries[i].Cell.Last.Value++ })
		for bits := range 65 {
			change(func(b *api.Batch) { b.Entries[i].Cell.Hist[bits]++ })
		}
	}
	return list
}

// P17.1: Same tells batches apart by each of their numbers, in form or not.
func TestSame(t *testing.T) {
	for _, b := range []api.Batch{
		{Epoch: 3, Lane: 2, From: at(0, 0), To: at(5, 5), Entries: counted(2)},
		{Epoch: -3, Lane: greatest, From: at(7, 0), To: at(least, 5), Entries: []api.Entry{{}, {Cell: some(2)}}},
	} {
		if !gate.Same(b, b) || !gate.Same(b, cloned(b)) {
			t.Error("a batch isn't the same as itself")
		}
		list := changed(b)
		for i, other := range list {
			if gate.Same(b, other) || gate.Same(other, b) || !gate.Same(other, cloned(other)) {
				t.Errorf("change %d of %v isn't told", i, short(b))
			}
		}
	}
}

// P17.1: to Same nil and empty entries are the same, and the room behind them doesn't matter.
func TestSameOfEmpty(t *testing.T) {
	room := make([]api.Entry, 0, 4)
	for _, a := range []api.Batch{{}, {Entries: []api.Entry{}}, {Entries: room}} {
		for _, b := range []api.Batch{{}, {Entries: []api.Entry{}}, {Entries: room}} {
			if !gate.Same(a, b) {
				t.Error(a, b)
			}
		}
	}
	list, _ := roomy(counted(2), entry(at(9, 9)))
	if !gate.Same(api.Batch{Entries: list}, api.Batch{Entries: counted(2)}) {
		t.Error("the room behind the entries is asked")
	}
}

// P17.3: Check and Same change nothing of what they are handed, its room included.
func TestAskingChangesNothing(t *testing.T) {
	odd := entry(at(9, 9))
	for _, n := range []int{0, 1, 2, 16, 17} {
		list, whole := roomy(counted(n), odd)
		before := slices.Clone(whole)
		b := batch(at(0, 0), at(0, 99), list...)
		b.Entries = list
		gate.Check(b)
		gate.Same(b, b)
		gate.Same(b, api.Batch{})
		if !slices.Equal(whole, before) {
			t.Errorf("%d entries are changed", n)
		}
	}
}
