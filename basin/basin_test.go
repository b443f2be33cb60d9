package basin_test

import (
	"slices"
	"testing"

	"estuary/api"
	"estuary/basin"
)

// plain is one source at one resolution.
func plain(most int) setup { return setup{1, []int{10}, 1, most} }

// paired is two sources at two resolutions: a sample has a cell in lane 0 and one in lane 1.
func paired(most int) setup { return setup{2, []int{10, 60}, 1, most} }

// P16.1: the chapter's example.
func TestExample(t *testing.T) {
	b := made(t, plain(9))
	ops := row(api.Op{Seq: 1, Kind: isSample, Time: 5, Key: 1, Value: 7}, mark(2, 10))
	if err := b.Feed(0, 1, 2, repeat(at(least, least), 1), ops); err != nil {
		t.Fatal(err)
	}
	want := api.Cell{Count: 1, Sum: api.Wide{Lo: 7}, Min: 7, Max: 7, Last: api.Last{Time: 5, Seq: 1, Value: 7}}
	want.Hist[3] = 1
	if c, ok := b.Cell(named(0, 0, 1)); c != want || !ok {
		t.Error(c, ok)
	}
	if l := b.List(0, upTo(1), 9); !slices.Equal(l, []api.Entry{{Place: at(0, 1), Cell: want}}) {
		t.Error(l)
	}
	if p, ok := b.Closed(0); p != upTo(1) || !ok {
		t.Error(p, ok)
	}
	if n, err := b.Raise(0, upTo(1)); n != 1 || err != nil || b.Len() != 0 || b.Base(0) != upTo(1) {
		t.Error(n, err, b.Len(), b.Base(0))
	}
	if c, ok := b.Cell(named(0, 0, 1)); c != (api.Cell{}) || ok {
		t.Error(c, ok)
	}
}

// P16.1: the document's numbers are those of package api.
func TestNumbers(t *testing.T) {
	if api.OpSample != isSample || api.OpMark != isMark {
		t.Error("the kinds of operations")
	}
	if api.ErrRange != errRange || api.ErrForm != errForm || api.ErrFull != errFull || api.ErrStale != errStale {
		t.Error("the errors")
	}
}

// resolutions is lists of resolutions, and whether a basin may have them.
func resolutions() map[bool][][]int {
	return map[bool][][]int{
		true: {{1}, {greatest}, {1, 1}, {60, 10}, {1, 10, 100}},
		false: {
			nil, {}, {0}, {-1}, {least}, {0, 10, 100}, {1, 0, 100}, {1, 10, 0}, {1, 10, -1},
			{1, 10, 100, 1000}, {1, 10, 100, 0}, slices.Repeat([]int{1}, 1000),
		},
	}
}

// P16.1: New takes from 1 to 4 sources, from 1 to 3 resolutions from 1 on, from 1 to 4 shards, from 1 to 1024 cells, and nothing else.
func TestNew(t *testing.T) {
	for goodRes, lists := range resolutions() {
		for _, res := range lists {
			for _, sources := range []int{least, -1, 0, 1, 2, 4, 5, greatest} {
				for _, shards := range []int{least, -1, 0, 1, 2, 4, 5, greatest} {
					for _, most := range []int{least, -1, 0, 1, 2, 1024, 1025, greatest} {
						good := goodRes && sources >= 1 && sources <= 4 && shards >= 1 && shards <= 4 && most >= 1 && most <= 1024
						expectNew(t, setup{sources, res, shards, most}, good)
					}
				}
			}
		}
	}
}

// expectNew checks whether a basin may be made, and what it holds.
func expectNew(t *testing.T, a setup, good bool) {
	t.Helper()
	if good {
		both(t, a)
		return
	}
	if b, err := basin.New(a.sources, a.res, a.shards, a.most); b != nil || err != errForm {
		t.Errorf("New(%v): %v, %v, want ErrForm", a, b, err)
	}
}

// part is what Feed is given.
type part struct {
	source, from, last int
	cut                []api.Place
	ops                []api.Op
}

// fed is a pair whose source 0 waits for number 4 and source 1 for 2, with cells in both lanes.
func fed(t *testing.T, most int) pair {
	t.Helper()
	p := both(t, paired(most))
	p.take(t, 0, sampleOf(1, 5, 1), sampleOf(2, 65, 2), mark(3, 50))
	p.take(t, 1, sampleOf(1, 15, 1))
	return p
}

// P16.1: what isn't in form is ErrForm, and changes nothing, not even by its cut.
func TestFeedOfWhatIsNotInForm(t *testing.T) {
	p := fed(t, 9)
	high := repeat(upTo(9), 2)
	good := row(sample(4, 70), mark(5, 80))
	parts := []part{
		{-1, 4, 5, high, good}, // no such source
		{2, 4, 5, high, good},
		{least, 4, 5, high, good},
		{greatest, 4, 5, high, good},
		{0, 4, 5, nil, good}, // fewer and more places than lanes
		{0, 4, 5, high[:1], good},
		{0, 4, 5, repeat(upTo(9), 3), good},
		{0, 4, 5, repeat(upTo(9), 100), good},
		{0, 4, 2, high, nil}, // last is below from less 1
		{0, 4, 0, high, nil},
		{0, 4, least, high, nil},
		{0, 4, 5, high, row(sample(4, 70), sample(4, 71))}, // the numbers don't rise
		{0, 4, 5, high, row(sample(5, 70), sample(4, 71))},
		{0, 4, 6, high, row(sample(4, 70), mark(6, 80), sample(5, 71))},
		{0, 4, 6, high, row(sample(4, 70), mark(5, 80), mark(5, 80))},
		{0, 4, 5, high, row(sample(3, 70))}, // ahead of from
		{0, 4, 5, high, row(mark(3, 80), sample(4, 70))},
		{0, 4, 5, high, row(sample(least, 70), sample(4, 70))},
		{0, 4, 5, high, row(sample(6, 70))}, // behind last
		{0, 4, 5, high, row(sample(4, 70), sample(5, 70), mark(6, 80))},
		{0, 4, 5, high, row(sample(4, 70), mark(greatest, 80))},
		{0, 4, 3, high, row(sample(4, 70))},
		{0, 4, 3, high, row(mark(3, 70))},
	}
	for _, kind := range []int{least, -1, 0, 3, 4, greatest} { // a Kind that is neither
		odd := api.Op{Seq: 5, Kind: kind, Time: 80}
		parts = append(parts, part{0, 4, 5, high, row(odd)}, part{0, 4, 5, high, row(good[0], odd)}, part{0, 4, 6, high, row(good[0], odd, mark(6, 90))})
	}
	for _, x := range parts {
		p.expect(t, errForm, x.source, x.from, x.last, x.cut, x.ops)
	}
	p.expect(t, nil, 0, 4, 5, high, good)
}

// P16.1: a from that isn't the source's next number is ErrStale, and changes nothing, not even by its cut.
func TestFeedOfWhatIsStale(t *testing.T) {
	p := fed(t, 9)
	high := repeat(upTo(9), 2)
	for source, next := range []int{4, 2} {
		for _, from := range []int{least + 1, -1, 0, 1, 2, 3, 4, 5, 6, greatest} {
			if from == next {
				continue
			}
			p.expect(t, errStale, source, from, from-1, high, nil)
			p.expect(t, errStale, source, from, greatest, high, nil)
			p.expect(t, errStale, source, from, greatest, high, row(sample(from, 70)))
			p.expect(t, errStale, source, from, greatest, high, row(mark(from, 70)))
		}
	}
	p.expect(t, nil, 0, 4, 3, p.m.lowest(), nil)
	p.expect(t, nil, 1, 2, 1, p.m.lowest(), nil)
}

// P16.1: where several errors apply, ErrForm is told ahead of ErrStale, and that ahead of ErrFull.
func TestOrderOfErrors(t *testing.T) {
	p := fed(t, 6)
	if p.b.Len() != 5 {
		t.Fatal(p.b.Len())
	}
	low := p.m.lowest()
	big := row(sample(4, 200), sample(5, 300)) // finds no room
	p.expect(t, errForm, 2, 4, 5, low, big)
	p.expect(t, errForm, 0, 4, 5, low[:1], big)
	p.expect(t, errForm, 0, 4, 5, low, append(slices.Clone(big), sample(5, 400)))
	p.expect(t, errForm, 0, 4, 6, low, append(slices.Clone(big), api.Op{Seq: 6, Kind: 3}))
	p.expect(t, errForm, 0, 5, 6, low, big)
	p.expect(t, errForm, 0, 5, 3, low, nil)
	p.expect(t, errForm, 0, 3, 5, nil, big)
	p.expect(t, errForm, 2, 3, 5, low, big)
	p.expect(t, errForm, 0, 3, 4, low, big)
	p.expect(t, errForm, 0, 3, 5, low, row(sample(4, 200), api.Op{Seq: 5}))
	p.expect(t, errStale, 0, 3, 5, low, big)
	p.expect(t, errStale, 1, 4, 5, low, big)
	p.expect(t, errFull, 0, 4, 5, low, big)
}

// P16.1: parts without operations move the next number, and raise lanes.
func TestFeedOfNoOperations(t *testing.T) {
	for _, none := range [][]api.Op{nil, {}, make([]api.Op, 0, 4)} {
		p := both(t, paired(9))
		p.expect(t, nil, 0, 1, 0, p.m.lowest(), none)
		if p.b.Next(0) != 1 {
			t.Error(p.b.Next(0))
		}
		p.expect(t, nil, 0, 1, 1, p.m.lowest(), none)
		p.expect(t, nil, 0, 2, 17, p.m.lowest(), none)
		if p.b.Next(0) != 18 || p.b.Next(1) != 1 {
			t.Error(p.b.Next(0), p.b.Next(1))
		}
		p.take(t, 1, sample(1, 5), sample(2, 15))
		p.expect(t, nil, 0, 18, 17, []api.Place{upTo(1), upTo(0)}, none)
		if p.b.Base(0) != upTo(1) || p.b.Base(1) != upTo(0) || p.b.Len() != 2 || p.b.Next(0) != 18 {
			t.Error(p.b.Base(0), p.b.Base(1), p.b.Len(), p.b.Next(0))
		}
	}
}

// P16.1: numbers may be left out at the beginning, between and at the end; the next one is the one behind the last.
func TestNumbersThatAreLeftOut(t *testing.T) {
	p := both(t, plain(9))
	p.expect(t, nil, 0, 1, 9, p.m.lowest(), row(sample(3, 5), sample(4, 6), mark(7, 8)))
	if p.b.Next(0) != 10 {
		t.Error(p.b.Next(0))
	}
	p.expect(t, nil, 0, 10, 12, p.m.lowest(), row(sample(10, 9), sample(12, 9)))
	if p.b.Next(0) != 13 {
		t.Error(p.b.Next(0))
	}
}

// expectMark holds a source's mark against a written one.
func expectMark(t *testing.T, b *basin.Basin, source, time int, ok bool) {
	t.Helper()
	if got, gotOk := b.Mark(source); got != time || gotOk != ok {
		t.Errorf("Mark(%d): %d, %v, want %d, %v", source, got, gotOk, time, ok)
	}
}

// P16.1: marks that rise, stay and fall, within a part and from part to part; each source has its own.
func TestMarks(t *testing.T) {
	p := both(t, paired(9))
	expectMark(t, p.b, 0, 0, false)
	p.take(t, 0, mark(1, -5))
	expectMark(t, p.b, 0, -5, true)
	p.take(t, 0, mark(2, 3))
	expectMark(t, p.b, 0, 3, true)
	p.take(t, 0, mark(3, 3))
	expectMark(t, p.b, 0, 3, true)
	p.take(t, 0, mark(4, 2))
	p.take(t, 0, mark(5, least))
	expectMark(t, p.b, 0, 3, true)
	p.take(t, 0, mark(6, 40), mark(7, 20), mark(8, 30))
	expectMark(t, p.b, 0, 40, true)
	p.take(t, 0, mark(9, 50), mark(10, 50), mark(11, 60))
	expectMark(t, p.b, 0, 60, true)
	expectMark(t, p.b, 1, 0, false)
	p.take(t, 1, mark(1, least))
	expectMark(t, p.b, 1, least, true)
	p.take(t, 1, mark(2, greatest))
	expectMark(t, p.b, 1, greatest, true)
	for _, source := range []int{-1, 2, least, greatest} {
		expectMark(t, p.b, source, 0, false)
	}
	if p.b.Len() != 0 {
		t.Error("a mark has a cell")
	}
}

// P16.1: a first mark of time 0, or below it, is one; a mark's key and value don't matter.
func TestFirstMarks(t *testing.T) {
	for _, time := range []int{least, -1, 0, 1, greatest} {
		p := both(t, plain(9))
		p.take(t, 0, api.Op{Seq: 1, Kind: isMark, Time: time, Key: 7, Value: -7})
		expectMark(t, p.b, 0, time, true)
		if p.b.Len() != 0 {
			t.Error("a mark has a cell")
		}
	}
}

// P16.1, P16.2: of a sample's cells those that are ahead of the bases are left out: all of them, some, none.
func TestSamplesAroundTheBases(t *testing.T) {
	cases := []struct {
		bases []api.Place
		want  []api.Id
	}{
		{[]api.Place{upTo(least), upTo(least)}, []api.Id{named(0, 2, 1), named(1, 0, 1)}},
		{[]api.Place{at(2, 1), at(0, 1)}, []api.Id{named(0, 2, 1), named(1, 0, 1)}}, // at the cells themselves
		{[]api.Place{at(2, 2), at(0, 1)}, []api.Id{named(1, 0, 1)}},
		{[]api.Place{at(2, 1), at(0, 2)}, []api.Id{named(0, 2, 1)}},
		{[]api.Place{upTo(3), upTo(0)}, []api.Id{named(1, 0, 1)}},
		{[]api.Place{upTo(2), upTo(1)}, []api.Id{named(0, 2, 1)}},
		{[]api.Place{at(2, 2), at(0, 2)}, nil},
		{[]api.Place{at(greatest, greatest), at(greatest, greatest)}, nil},
	}
	for _, c := range cases {
		p := both(t, paired(9))
		p.expect(t, nil, 0, 1, 0, c.bases, nil)
		p.take(t, 0, sampleOf(1, 25, 1))
		if got := p.m.ids(); !slices.Equal(got, c.want) || p.b.Len() != len(c.want) || p.b.Next(0) != 2 {
			t.Errorf("%v: %v, want %v", c.bases, got, c.want)
		}
		p.take(t, 0, sampleOf(2, 29, 1), sampleOf(3, 20, 1))
	}
}

// P16.1: the cut of a part holds for the part's own samples.
func TestCutComesFirst(t *testing.T) {
	p := both(t, plain(1))
	p.take(t, 0, sample(1, 5))
	p.expect(t, errFull, 0, 2, 2, []api.Place{upTo(0)}, row(sample(2, 15)))
	p.expect(t, nil, 0, 2, 3, []api.Place{upTo(1)}, row(sample(2, 15), sample(3, 9)))
	if got := p.m.ids(); !slices.Equal(got, []api.Id{named(0, 1, 0)}) {
		t.Error(got)
	}
}

// P16.1: a cut raises each lane by itself, never down, and takes away what is ahead of it.
func TestCut(t *testing.T) {
	p := both(t, setup{1, []int{10, 60}, 2, 20})
	p.take(t, 0, sampleOf(1, 5, 0), sampleOf(2, 5, 1), sampleOf(3, 15, 0), sampleOf(4, 15, 1), sampleOf(5, 75, 2), sampleOf(6, 75, -1))
	cuts := []struct {
		cut  []api.Place
		left int
	}{
		{p.m.lowest(), 10},
		{[]api.Place{upTo(1), upTo(0), upTo(least), upTo(least)}, 9},
		{[]api.Place{upTo(0), at(0, 1), upTo(-5), upTo(0)}, 9}, // below the base of lane 0
		{[]api.Place{at(0, 9), at(0, 2), at(0, 0), upTo(0)}, 8},
		{[]api.Place{upTo(1), upTo(1), at(0, 1), at(1, -1)}, 6},
		{[]api.Place{upTo(8), upTo(8), upTo(2), upTo(2)}, 0},
		{p.m.lowest(), 0},
	}
	for _, c := range cuts {
		p.expect(t, nil, 0, 7, 6, c.cut, nil)
		if p.b.Len() != c.left {
			t.Errorf("%v: %d cells, want %d", c.cut, p.b.Len(), c.left)
		}
	}
	for lane, want := range []api.Place{upTo(8), upTo(8), upTo(2), upTo(2)} {
		if got := p.b.Base(lane); got != want {
			t.Errorf("Base(%d): %v, want %v", lane, got, want)
		}
	}
}

// P16.1: a lane is raised to a place above its base, and to no other one.
func TestRaise(t *testing.T) {
	p := both(t, setup{1, []int{10, 60}, 2, 20})
	p.take(t, 0, sampleOf(1, 5, 0), sampleOf(2, 5, 1), sampleOf(3, 15, 0), sampleOf(4, 15, 2), sampleOf(5, 75, 2))
	for _, lane := range []int{least, -1, 4, 5, greatest} {
		for _, to := range []api.Place{at(least, least), upTo(1), at(greatest, greatest)} {
			if n, err := p.b.Raise(lane, to); n != 0 || err != errRange {
				t.Errorf("Raise(%d, %v): %d, %v", lane, to, n, err)
			}
			p.raise(t, lane, to)
		}
	}
	steps := []struct {
		lane int
		to   api.Place
		gone int
		base api.Place
	}{
		{0, at(least, least), 0, at(least, least)}, // just the base
		{0, at(0, 0), 0, at(0, 0)},                 // just a cell: it stays
		{0, at(0, 0), 0, at(0, 0)},
		{0, at(-1, 5), 0, at(0, 0)}, // below
		{0, upTo(0), 0, at(0, 0)},
		{0, at(0, 1), 1, at(0, 1)},
		{0, at(1, 2), 1, at(1, 2)},
		{0, at(1, 1), 0, at(1, 2)},
		{0, at(1, 3), 1, at(1, 3)},
		{1, upTo(1), 1, upTo(1)},
		{2, upTo(2), 3, upTo(2)}, // all of them at once
		{2, upTo(1), 0, upTo(2)},
		{3, at(greatest, greatest), 1, at(greatest, greatest)},
		{3, at(greatest, greatest-1), 0, at(greatest, greatest)},
		{0, at(greatest, greatest), 1, at(greatest, greatest)},
	}
	for _, s := range steps {
		if gone := p.raise(t, s.lane, s.to); gone != s.gone || p.b.Base(s.lane) != s.base {
			t.Errorf("Raise(%d, %v): %d, base %v", s.lane, s.to, gone, p.b.Base(s.lane))
		}
	}
	if p.b.Len() != 0 || p.b.Next(0) != 6 {
		t.Error(p.b.Len(), p.b.Next(0))
	}
}

// P16.1, P16.3: full at the first, at a middle and at the last sample: that one and all behind it aren't taken, and its number is the next one.
func TestFull(t *testing.T) {
	ops := row(sample(2, 5), sample(3, 6), mark(5, 5), sample(6, 15), sample(8, 25), mark(9, 20), sample(11, 35), mark(12, 30))
	cases := []struct {
		most, next, mark int
		marked           bool
		err              error
	}{
		{1, 6, 5, true, errFull},
		{2, 8, 5, true, errFull},
		{3, 11, 20, true, errFull},
		{4, 15, 30, true, nil},
	}
	for _, c := range cases {
		p := both(t, plain(c.most))
		p.expect(t, c.err, 0, 1, 14, p.m.lowest(), ops)
		if p.b.Next(0) != c.next || p.b.Len() != c.most {
			t.Errorf("most %d: next %d, %d cells", c.most, p.b.Next(0), p.b.Len())
		}
		expectMark(t, p.b, 0, c.mark, c.marked)
		// It stays full, from that number on.
		if c.err != nil {
			rest := slices.DeleteFunc(slices.Clone(ops), func(o api.Op) bool { return o.Seq < c.next })
			p.expect(t, errFull, 0, c.next, 14, p.m.lowest(), rest)
			p.expect(t, errStale, 0, 15, 14, p.m.lowest(), nil)
		}
	}
}

// P16.1, P16.3: full at the very first operation: nothing is taken, not even a mark behind it; the part's cut stays.
func TestFullAtTheFirst(t *testing.T) {
	p := both(t, paired(2))
	p.take(t, 0, sample(1, 5))
	p.expect(t, errFull, 1, 1, 3, []api.Place{upTo(-7), upTo(-9)}, row(sample(1, 95), mark(2, 9), sample(3, 5)))
	expectMark(t, p.b, 1, 0, false)
	if p.b.Next(1) != 1 || p.b.Next(0) != 2 || p.b.Len() != 2 || p.b.Base(0) != upTo(-7) || p.b.Base(1) != upTo(-9) {
		t.Error(p.b.Next(1), p.b.Next(0), p.b.Len(), p.b.Base(0), p.b.Base(1))
	}
	// Numbers that are left out ahead of it are behind, too.
	p.expect(t, errFull, 1, 1, 9, p.m.lowest(), row(sample(7, 95)))
	if p.b.Next(1) != 7 {
		t.Error(p.b.Next(1))
	}
}

// P16.1: a full basin takes marks, samples whose cells are all there, samples all of whose cells are ahead of the bases, and a mixture.
func TestFullTakesWhatNeedsNoRoom(t *testing.T) {
	p := both(t, paired(3))
	p.take(t, 0, sample(1, 5), sample(2, 15))
	p.take(t, 0, sample(3, 9), sample(4, 10), mark(5, 7))
	p.take(t, 1, sample(1, 9), sample(2, 10), mark(3, 7))
	if p.raise(t, 0, upTo(1)) != 1 {
		t.Error("one was to be gone")
	}
	p.take(t, 0, sample(6, 25)) // full again
	p.take(t, 0, sample(7, 5), sample(8, 0), mark(9, 20))
	p.expect(t, errFull, 0, 10, 11, p.m.lowest(), row(sample(10, 35), sample(11, 15)))
	if p.raise(t, 1, upTo(1)) != 1 {
		t.Error("one was to be gone")
	}
	p.take(t, 0, sample(10, 5), sample(11, 35))
	p.take(t, 0, sample(12, -60), sample(13, 0))
	if p.b.Len() != 3 || p.b.Next(0) != 14 {
		t.Error(p.b.Len(), p.b.Next(0))
	}
}

// P16.3: a sample that brings several new cells, of which only some would find room, is not taken at all.
func TestSampleIsTakenWholeOrNotAtAll(t *testing.T) {
	for most := 1; most <= 7; most++ {
		p := both(t, setup{1, []int{10, 60, 300}, 2, most})
		ops := row(sampleOf(1, 5, 2), sampleOf(2, 15, 2), sampleOf(3, 65, 2), sampleOf(4, 66, 3))
		// They need 3, 1, 2 and 3 new cells.
		next, held := 1, 0
		for i, n := range []int{3, 1, 2, 3} {
			if held+n > most {
				break
			}
			next, held = i+2, held+n
		}
		p.expect(t, errFull, 0, 1, 4, p.m.lowest(), ops)
		if p.b.Next(0) != next || p.b.Len() != held {
			t.Errorf("most %d: next %d, %d cells, want %d, %d", most, p.b.Next(0), p.b.Len(), next, held)
		}
	}
}

// P16.3: cells that are ahead of the bases need no room.
func TestCellsAheadNeedNoRoom(t *testing.T) {
	for ahead := range 8 { // in which lanes the cell is ahead of the base, bit by bit
		cut, left := repeat(upTo(0), 3), 3
		for lane := range cut {
			if ahead>>lane&1 == 1 {
				cut[lane], left = upTo(1), left-1
			}
		}
		for most := 1; most <= 3; most++ {
			p := both(t, setup{1, []int{10, 60, 300}, 1, most})
			if left > most {
				p.expect(t, errFull, 0, 1, 1, cut, row(sample(1, 5)))
				continue
			}
			p.expect(t, nil, 0, 1, 1, cut, row(sample(1, 5)))
			if p.b.Len() != left {
				t.Errorf("%v: %d cells, want %d", cut, p.b.Len(), left)
			}
		}
	}
}

// P16.1, P16.3: behind a Raise, and behind a cut, there is room again, and the stream goes on at the sample that found none.
func TestRoomAgain(t *testing.T) {
	p := both(t, plain(2))
	ops := row(sample(1, 5), sample(2, 15), sample(3, 25), sample(4, 35), mark(5, 30))
	p.expect(t, errFull, 0, 1, 5, p.m.lowest(), ops)
	p.raise(t, 0, at(0, 0)) // takes nothing away
	p.expect(t, errFull, 0, 3, 5, p.m.lowest(), ops[2:])
	if p.raise(t, 0, upTo(1)) != 1 {
		t.Error("one was to be gone")
	}
	p.expect(t, errFull, 0, 3, 5, p.m.lowest(), ops[2:])
	if p.b.Next(0) != 4 {
		t.Error(p.b.Next(0))
	}
	p.expect(t, nil, 0, 4, 5, []api.Place{upTo(2)}, ops[3:])
	if p.b.Next(0) != 6 || p.b.Len() != 2 {
		t.Error(p.b.Next(0), p.b.Len())
	}
}

// P16.3: the greatest basin there may be: 1024 cells, and not one more.
func TestGreatestBasin(t *testing.T) {
	b := made(t, setup{4, []int{10}, 1, 1024})
	low := repeat(at(least, least), 1)
	var ops []api.Op
	for i := range 2000 {
		ops = append(ops, sampleOf(i+1, 10*(i%500), i))
	}
	if err := b.Feed(3, 1, 2000, low, ops); err != errFull || b.Len() != 1024 || b.Next(3) != 1025 {
		t.Fatal(err, b.Len(), b.Next(3))
	}
	if err := b.Feed(2, 1, 1024, low, ops[:1024]); err != nil || b.Len() != 1024 {
		t.Fatal(err, b.Len())
	}
	list := b.List(0, at(greatest, greatest), 5000)
	if len(list) != 1024 || !slices.IsSortedFunc(list, func(a, b api.Entry) int {
		return slices.Compare([]int{a.Win, a.Key}, []int{b.Win, b.Key})
	}) {
		t.Error("the list isn't whole, or isn't in order")
	}
	for _, e := range list {
		if e.Cell.Count != 2 || e.Cell.Last.Source != 3 {
			t.Fatal(e.Place, e.Cell)
		}
	}
	if n, err := b.Raise(0, upTo(100)); n != 224 || err != nil || b.Len() != 800 {
		t.Error(n, err, b.Len())
	}
	// The first 76 of these are ahead of the base.
	if err := b.Feed(3, 1025, 2000, low, ops[1024:]); err != errFull || b.Len() != 1024 || b.Next(3) != 1025+76+224 {
		t.Error(err, b.Len(), b.Next(3))
	}
}

// P16.1, P16.4: what is closed, at each lane's resolution, by the least mark, once all sources have one.
func TestClosed(t *testing.T) {
	p := both(t, setup{3, []int{10, 60, 7}, 2, 9})
	expect := func(want []api.Place) {
		t.Helper()
		for lane := -1; lane <= 6; lane++ {
			var place api.Place
			ok := want != nil && lane >= 0 && lane < 6
			if ok {
				place = want[lane/2]
			}
			if got, gotOk := p.b.Closed(lane); got != place || gotOk != ok {
				t.Errorf("Closed(%d): %v, %v, want %v, %v", lane, got, gotOk, place, ok)
			}
		}
	}
	expect(nil)
	p.take(t, 1, mark(1, 100))
	expect(nil)
	p.take(t, 0, mark(1, -1))
	expect(nil)
	p.take(t, 2, mark(1, 59))
	expect([]api.Place{upTo(-1), upTo(-1), upTo(-1)})
	p.take(t, 0, mark(2, 60))
	expect([]api.Place{upTo(5), upTo(0), upTo(8)})
	p.take(t, 2, mark(2, 61))
	expect([]api.Place{upTo(6), upTo(1), upTo(8)})
	p.take(t, 0, mark(3, 0)) // it goes back, and doesn't count
	expect([]api.Place{upTo(6), upTo(1), upTo(8)})
	for source := range 3 {
		p.take(t, source, mark(p.m.next[source], greatest))
	}
	expect([]api.Place{upTo(greatest / 10), upTo(greatest / 60), upTo(greatest / 7)})
	// The bases don't matter.
	p.raise(t, 0, at(greatest, greatest))
	expect([]api.Place{upTo(greatest / 10), upTo(greatest / 60), upTo(greatest / 7)})
}

// P16.1: the least mark of all counts as well as any other.
func TestClosedByTheLeastMark(t *testing.T) {
	p := both(t, setup{2, []int{10, 1}, 1, 9})
	p.take(t, 0, mark(1, least))
	p.take(t, 1, mark(1, greatest))
	for lane, want := range []api.Place{upTo(window(least, 10)), at(least, least)} {
		if got, ok := p.b.Closed(lane); got != want || !ok {
			t.Errorf("Closed(%d): %v, %v", lane, got, ok)
		}
	}
}

// P16.1: lists by rising places: of each lane its own, ahead of a place, at most so many.
func TestList(t *testing.T) {
	p := both(t, setup{2, []int{10, 60}, 2, 40})
	p.take(t, 1, sampleOf(1, 25, 4), sampleOf(2, 5, 2), sampleOf(3, -5, 6), sampleOf(4, 5, -2), sampleOf(5, 5, 0), sampleOf(6, 25, 1), sampleOf(7, 15, greatest), sampleOf(8, 125, least))
	p.take(t, 0, sampleOf(1, 5, 2), sampleOf(2, 5, 3), sampleOf(3, 500, 2))
	expect := func(lane int, to api.Place, most int, want ...api.Place) {
		t.Helper()
		if got := placesOf(p.b.List(lane, to, most)); !slices.Equal(got, want) {
			t.Errorf("List(%d, %v, %d): %v, want %v", lane, to, most, got, want)
		}
		p.checkList(t, lane, to, most)
	}
	end := at(greatest, greatest)
	all := []api.Place{at(-1, 6), at(0, -2), at(0, 0), at(0, 2), at(2, 4), at(12, least), at(50, 2)}
	for most := range 10 {
		expect(0, end, most, all[:min(most, len(all))]...)
	}
	expect(0, end, greatest, all...)
	for _, most := range []int{least, -1, 0} {
		expect(0, end, most)
	}
	expect(0, at(least, least), 9)
	expect(0, at(-1, 6), 9)
	expect(0, at(-1, 7), 9, all[:1]...)
	expect(0, upTo(0), 9, all[:1]...)
	expect(0, at(0, 0), 9, all[:2]...)
	expect(0, at(0, 1), 2, all[:2]...)
	expect(0, at(0, 1), 1, all[:1]...)
	expect(0, upTo(12), 9, all[:5]...)
	expect(0, at(12, least+1), 9, all[:6]...)
	expect(1, end, 9, at(0, 3), at(1, greatest), at(2, 1))
	expect(3, end, 9, at(0, 1), at(0, 3), at(0, greatest))
	expect(2, end, 9, at(-1, 6), at(0, -2), at(0, 0), at(0, 2), at(0, 4), at(2, least), at(8, 2))
	for _, lane := range []int{least, -1, 4, greatest} {
		expect(lane, end, 9)
	}
	p.raise(t, 0, at(0, 1))
	expect(0, end, 9, all[3:]...)
	expect(0, at(0, 1), 9)
	if l := p.b.List(0, upTo(1), 9); len(l) != 1 || l[0].Cell.Count != 2 {
		t.Error(l)
	}
}

// P16.1: Cell of what is there and of what isn't.
func TestCell(t *testing.T) {
	p := fed(t, 9)
	for _, id := range []api.Id{named(0, 0, 1), named(0, 6, 2), named(1, 0, 1), named(1, 1, 2), named(0, 1, 1)} {
		if c, ok := p.b.Cell(id); c.Count < 1 || !ok {
			t.Errorf("Cell(%v): %v, %v", id, c, ok)
		}
	}
	for _, id := range []api.Id{
		{}, named(0, 0, 2), named(0, 1, 2), named(0, 6, 1), named(1, 1, 1), named(2, 0, 1), named(-1, 0, 1),
		named(least, least, least), named(greatest, greatest, greatest), named(0, least, least), named(0, greatest, greatest),
	} {
		if c, ok := p.b.Cell(id); c != (api.Cell{}) || ok {
			t.Errorf("Cell(%v): %v, %v", id, c, ok)
		}
	}
	// Asking for a cell makes none.
	p.check(t)
	if c, _ := p.b.Cell(named(1, 0, 1)); c != cellOf([]drop{{0, sampleOf(1, 5, 1)}, {1, sampleOf(1, 15, 1)}}) {
		t.Error(c)
	}
}

// P16.1, P16.2: a cell tells its samples' sources, numbers and values.
func TestWhatACellComesTo(t *testing.T) {
	p := both(t, setup{4, []int{10}, 1, 2})
	p.take(t, 2, api.Op{Seq: 1, Kind: isSample, Time: 9, Key: -3, Value: greatest}, api.Op{Seq: 2, Kind: isSample, Time: 9, Key: -3, Value: 0})
	p.take(t, 3, api.Op{Seq: 1, Kind: isSample, Time: 9, Key: -3, Value: greatest})
	p.take(t, 0, api.Op{Seq: 1, Kind: isSample, Time: 0, Key: -3, Value: least})
	want := api.Cell{Count: 4, Sum: api.Wide{Lo: 1<<63 - 2}, Min: least, Max: greatest, Last: api.Last{Time: 9, Source: 3, Seq: 1, Value: greatest}}
	want.Hist[0], want.Hist[63], want.Hist[64] = 1, 2, 1
	if c, ok := p.b.Cell(named(0, 0, -3)); c != want || !ok {
		t.Error(c, ok)
	}
}

// P16.1: resolutions that are alike have lanes, and cells, of their own.
func TestResolutionsThatAreAlike(t *testing.T) {
	p := both(t, setup{1, []int{10, 10, 10}, 1, 3})
	p.take(t, 0, sample(1, 5))
	if p.b.Len() != 3 {
		t.Error(p.b.Len())
	}
	p.raise(t, 1, upTo(1))
	p.take(t, 0, sample(2, 6))
	if p.b.Len() != 2 {
		t.Error(p.b.Len())
	}
	q := both(t, setup{1, []int{10, 10, 10}, 1, 2})
	q.expect(t, errFull, 0, 1, 1, q.m.lowest(), row(sample(1, 5)))
}

// P16.1: times and keys at the numbers' ends.
func TestEnds(t *testing.T) {
	for _, res := range [][]int{{1}, {greatest}, {1, 10, greatest}} {
		for shards := 1; shards <= 4; shards++ {
			p := both(t, setup{1, res, shards, 99})
			for _, time := range []int{least, least + 1, -1, 0, greatest - 1, greatest} {
				for _, key := range []int{least, -1, 0, greatest} {
					p.take(t, 0, sampleOf(p.m.next[0], time, key))
				}
			}
			for lane := range p.m.lanes() {
				p.checkList(t, lane, at(greatest, greatest), 99)
				p.checkList(t, lane, at(least, least), 99)
				p.raise(t, lane, at(least, least+1))
				p.raise(t, lane, at(greatest, greatest))
			}
			p.take(t, 0, sampleOf(p.m.next[0], least, least), sampleOf(p.m.next[0]+1, greatest, greatest))
		}
	}
}

// P16.1: nothing is behind the greatest place: its cell stays, and no list has it.
func TestGreatestPlace(t *testing.T) {
	p := both(t, plain(1))
	q := both(t, setup{1, []int{1}, 1, 1})
	q.take(t, 0, sampleOf(1, greatest, greatest))
	q.raise(t, 0, at(greatest, greatest))
	if q.b.Len() != 1 || len(q.b.List(0, at(greatest, greatest), 9)) != 0 {
		t.Error(q.b.Len())
	}
	p.take(t, 0, sampleOf(1, greatest, greatest))
	if p.raise(t, 0, at(greatest, greatest)) != 1 {
		t.Error("one was to be gone")
	}
}

// P16.1: numbers of operations at the ends: behind the greatest one comes the least.
func TestNumbersWrapAround(t *testing.T) {
	p := both(t, plain(2))
	p.expect(t, nil, 0, 1, greatest-2, p.m.lowest(), row(sample(1, 5), sample(greatest-2, 6)))
	p.expect(t, nil, 0, greatest-1, greatest-1, p.m.lowest(), row(sample(greatest-1, 7)))
	p.expect(t, nil, 0, greatest, greatest-1, p.m.lowest(), nil)
	p.expect(t, nil, 0, greatest, greatest, p.m.lowest(), row(sample(greatest, 8)))
	if p.b.Next(0) != least {
		t.Fatal(p.b.Next(0))
	}
	p.expect(t, errForm, 0, least, least, p.m.lowest(), nil) // from less 1 is the greatest number
	p.expect(t, errForm, 0, least, greatest-1, p.m.lowest(), nil)
	p.expect(t, errStale, 0, 1, 1, p.m.lowest(), nil)
	p.expect(t, errFull, 0, least, greatest, p.m.lowest(), row(sample(least, 9), sample(0, 15), mark(1, 3), sample(2, 25)))
	if p.b.Next(0) != 2 {
		t.Error(p.b.Next(0))
	}
	q := both(t, plain(2))
	q.expect(t, errForm, 0, least, 5, q.m.lowest(), nil)
	q.expect(t, errStale, 0, least, greatest, q.m.lowest(), nil)
	q.expect(t, nil, 0, 1, greatest, q.m.lowest(), row(sample(greatest, 5)))
	q.expect(t, nil, 0, least, greatest, q.m.lowest(), nil)
	if q.b.Next(0) != least {
		t.Error(q.b.Next(0))
	}
}

// P16.1: a nil basin answers ErrForm, ErrRange, none and 0.
func TestNilBasin(t *testing.T) {
	var b *basin.Basin
	for _, source := range []int{least, -1, 0, 1, greatest} {
		if err := b.Feed(source, 1, 0, nil, nil); err != errForm {
			t.Error("Feed:", err)
		}
		if err := b.Feed(source, 0, 1, repeat(upTo(0), 1), row(sample(1, 5))); err != errForm {
			t.Error("Feed:", err)
		}
		if b.Next(source) != 0 {
			t.Error("Next:", b.Next(source))
		}
		expectMark(t, b, source, 0, false)
	}
	for _, lane := range []int{least, -1, 0, 1, greatest} {
		if n, err := b.Raise(lane, upTo(1)); n != 0 || err != errRange {
			t.Error("Raise:", n, err)
		}
		if p, ok := b.Closed(lane); p != (api.Place{}) || ok {
			t.Error("Closed:", p, ok)
		}
		if p := b.Base(lane); p != (api.Place{}) {
			t.Error("Base:", p)
		}
		if l := b.List(lane, at(greatest, greatest), 9); len(l) != 0 {
			t.Error("List:", l)
		}
		if c, ok := b.Cell(named(lane, 0, 0)); c != (api.Cell{}) || ok {
			t.Error("Cell:", c, ok)
		}
	}
	if b.Len() != 0 || b.Lanes() != 0 {
		t.Error("Len, Lanes:", b.Len(), b.Lanes())
	}
}
