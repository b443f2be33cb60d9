package basin_test

import (
	"slices"
	"testing"

	"estuary/api"
)

// asked is one call of many.
type asked func(t *testing.T, p pair)

// from is operations of kinds and times that are numbered from a number on.
func from(seq int, ops ...api.Op) []api.Op {
	for i := range ops {
		ops[i].Seq = seq + i
	}
	return ops
}

// smallCalls is calls that bear on one another.
func smallCalls() []asked {
	feed := func(source int, ops ...api.Op) asked {
		return func(t *testing.T, p pair) {
			next := p.m.next[source]
			p.feed(t, source, next, next+len(ops)-1, p.m.lowest(), from(next, slices.Clone(ops)...))
		}
	}
	off := func(by int) asked {
		return func(t *testing.T, p pair) {
			next := p.m.next[0] + by
			p.feed(t, 0, next, next, []api.Place{upTo(1)}, row(sample(next, 35)))
		}
	}
	raise := func(win int) asked {
		return func(t *testing.T, p pair) { p.raise(t, 0, upTo(win)) }
	}
	return []asked{
		feed(0, sample(0, 5)), feed(0, sample(0, 15)), feed(0, mark(0, 10)), feed(0, mark(0, 20)),
		feed(1, sample(0, 25), mark(0, 15)), feed(1, mark(0, 5), sample(0, 5), sample(0, 35)), feed(1, api.Op{Kind: 3}),
		off(-1), off(1),
		func(t *testing.T, p pair) { p.feed(t, 0, p.m.next[0], p.m.next[0], []api.Place{upTo(2)}, nil) },
		raise(1), raise(3),
	}
}

// P16.1: all short rows of calls.
func TestAllRows(t *testing.T) {
	calls := smallCalls()
	rows := 1
	for range 4 {
		rows *= len(calls)
	}
	for n := range rows {
		p := pair{made(t, setup{2, []int{10}, 1, 2}), newModel(setup{2, []int{10}, 1, 2})}
		for range 4 {
			calls[n%len(calls)](t, p)
			n /= len(calls)
		}
	}
}

// anyTime is a time that is likely to lie around others.
func anyTime(s *scramble) int {
	switch s.next(30) {
	case 0:
		return []int{least, least + 1, greatest - 1, greatest}[s.next(4)]
	case 1:
		return -s.next(100)
	}
	return s.next(100)
}

// anyPlace is a place that is likely to lie around others.
func anyPlace(s *scramble) api.Place {
	switch s.next(20) {
	case 0:
		return at(s.next(12)-2, greatest)
	case 1:
		return at(s.next(12)-3, s.next(7)-3)
	case 2:
		return upTo(s.next(8))
	}
	return upTo(s.next(3) - 3)
}

// anyCut is as many places as there are lanes, seldom another number of them.
func anyCut(s *scramble, lanes int) []api.Place {
	if s.next(30) == 0 {
		lanes = s.next(14)
	}
	var cut []api.Place
	for range lanes {
		cut = append(cut, anyPlace(s))
	}
	return cut
}

// anyOps is operations whose numbers are likely to rise from a number on, and the number of the last one, or a greater one.
func anyOps(s *scramble, seq int) ([]api.Op, int) {
	var ops []api.Op
	last := seq - 1
	for range s.next(5) {
		o := api.Op{Seq: last + 1, Kind: isSample, Time: anyTime(s), Key: s.next(5) - 2, Value: s.next(100) - 50}
		if s.next(4) == 0 {
			o = mark(last+1, anyTime(s)/3)
		}
		switch s.next(40) {
		case 0:
			o.Seq += s.next(5) - 2
		case 1:
			o.Kind = s.next(4)
		case 2, 3, 4:
			o.Seq++
		}
		ops, last = append(ops, o), o.Seq
	}
	return ops, last + max(0, s.next(8)-5)
}

// anyFeed feeds a part that is likely to be the next one of a source, and is the answer.
func anyFeed(t *testing.T, s *scramble, p pair) error {
	t.Helper()
	source := s.next(p.m.sources)
	next := p.m.next[source]
	if s.next(15) == 0 {
		next += s.next(3) - 1
	}
	ops, last := anyOps(s, next)
	if s.next(40) == 0 {
		source, last = s.next(p.m.sources+2)-1, last-s.next(4)
	}
	return p.feed(t, source, next, last, anyCut(s, p.m.lanes()), ops)
}

// P16.1, P16.2, P16.3: any calls in any order.
func TestAnyCalls(t *testing.T) {
	shapes := []setup{
		{1, []int{10}, 1, 3},
		{2, []int{10, 30}, 2, 8},
		{3, []int{7, 20, 50}, 3, 12},
		{4, []int{1, greatest}, 4, 20},
		{4, []int{40, 5, 40}, 1, 1024},
	}
	answers := map[error]int{}
	for seed := range 40 {
		s := scramble(seed)
		p := both(t, shapes[seed%len(shapes)])
		for range 60 {
			switch s.next(8) {
			case 0:
				p.raise(t, s.next(p.m.lanes()+2)-1, anyPlace(&s))
			case 1:
				p.raise(t, s.next(p.m.lanes()), upTo(s.next(10)))
			case 2:
				p.checkList(t, s.next(p.m.lanes()+2)-1, anyPlace(&s), s.next(6)-1)
			default:
				answers[anyFeed(t, &s, p)]++
			}
		}
	}
	for _, err := range []error{nil, errForm, errStale, errFull} {
		if answers[err] < 40 {
			t.Errorf("too few of %v: %d", err, answers[err])
		}
	}
}
