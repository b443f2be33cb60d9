package audit_test

import (
	"slices"
	"testing"

	"estuary/api"
	"estuary/audit"
)

// fine is a plan and its streams, closed up to window 2 of resolution 10, and a log that is right.
func fine() (api.Plan, [][]api.Op, []api.Batch) {
	p := sized(2, 1, 10)
	streams := [][]api.Op{
		{sample(1, 5, 1, 7), mark(2, 20)},
		{sample(1, 15, 1, 9), sample(2, 8, 1, -2), mark(3, 30)},
	}
	return p, streams, chain(p, streams, 1, 0, upTo(1), upTo(2))
}

// expectRefused checks that all calls refuse a plan and streams with this error, and tell nothing beside it.
func expectRefused(t *testing.T, p api.Plan, streams [][]api.Op, want error) {
	t.Helper()
	_, _, log := fine()
	faulty := []api.Batch{{}}
	for _, id := range []api.Id{named(0, 0, 1), named(-1, 0, 0)} {
		if c, err := audit.Cell(p, streams, id); c != (api.Cell{}) || err != want {
			t.Errorf("Cell(%v, %v, %v): %v, %v, want %v", p, streams, id, c, err, want)
		}
	}
	if ids, err := audit.Ids(p, streams); len(ids) != 0 || err != want {
		t.Errorf("Ids(%v, %v): %v, %v, want %v", p, streams, ids, err, want)
	}
	for lane := -1; lane <= 2; lane++ {
		if to, ok := audit.Closed(p, streams, lane); to != (api.Place{}) || ok {
			t.Errorf("Closed(%v, %v, %d): %v, %v", p, streams, lane, to, ok)
		}
	}
	for _, i := range []int{-1, 0, 1, 5} { // with a resolution that there is, and with some that there aren't
		for _, win := range []int{0, 9} {
			if c, err := audit.Read(p, streams, i, win, 1); c != (api.Cell{}) || err != want {
				t.Errorf("Read(%v, %v, %d, %d, 1): %v, %v, want %v", p, streams, i, win, c, err, want)
			}
		}
	}
	for _, log := range [][]api.Batch{nil, {}, log, log[1:], faulty} {
		if err := audit.Check(p, streams, log); err != want {
			t.Errorf("Check(%v, %v, %v): %v, want %v", p, streams, short(log...), err, want)
		}
	}
	if n := audit.Rounds(p, streams); n != 0 {
		t.Errorf("Rounds(%v, %v): %d", p, streams, n)
	}
}

// badPlans is plans that aren't good, each by one number; their sources are two still, but where these are what is wrong.
func badPlans() []api.Plan {
	var list []api.Plan
	bad := func(change func(p *api.Plan)) {
		p, _, _ := fine()
		change(&p)
		list = append(list, p)
	}
	for _, n := range []int{0, -1, least, greatest} {
		bad(func(p *api.Plan) { p.Sources = n })
		bad(func(p *api.Plan) { p.Keepers = n })
		bad(func(p *api.Plan) { p.Shards = n })
		bad(func(p *api.Plan) { p.Hold = n })
		bad(func(p *api.Plan) { p.Cells = n })
		bad(func(p *api.Plan) { p.Batch = n })
		bad(func(p *api.Plan) { p.Lease = n })
	}
	bad(func(p *api.Plan) { p.Sources = 5 })
	bad(func(p *api.Plan) { p.Keepers = 2 })
	bad(func(p *api.Plan) { p.Keepers = 7 })
	bad(func(p *api.Plan) { p.Shards = 5 })
	bad(func(p *api.Plan) { p.Hold = 65 })
	bad(func(p *api.Plan) { p.Cells = 1025 })
	bad(func(p *api.Plan) { p.Batch = 17 })
	bad(func(p *api.Plan) { p.Lease = 21 })
	bad(func(p *api.Plan) { p.Res = nil })
	bad(func(p *api.Plan) { p.Res = []int{} })
	bad(func(p *api.Plan) { p.Res = []int{0} })
	bad(func(p *api.Plan) { p.Res = []int{10, -1} })
	bad(func(p *api.Plan) { p.Res = []int{10, 60, least} })
	bad(func(p *api.Plan) { p.Res = []int{10, 10, 10, 10} })
	return append(list, api.Plan{})
}

// kinds is Kinds that are neither.
func kinds() []int { return []int{0, 3, -1, -2, 1<<32 + 1, 1<<32 + 2, least, greatest} }

// wrongStreams is streams that aren't those of a plan of two sources.
func wrongStreams() [][][]api.Op {
	_, streams, _ := fine()
	list := [][][]api.Op{
		nil, {}, // none
		{nil}, streams[:1], streams[1:], // one too few
		{nil, nil, nil}, append(slices.Clone(streams), nil), append(slices.Clone(streams), streams[0]), // one too many
		slices.Repeat(streams, 50),
	}
	for _, kind := range kinds() {
		for source, ops := range streams {
			for i := range ops {
				other := slices.Clone(streams)
				other[source] = slices.Clone(ops)
				other[source][i].Kind = kind
				list = append(list, other)
			}
		}
		odd := api.Op{Seq: 1, Kind: kind, Time: 5}
		list = append(list, [][]api.Op{{odd}, nil}, [][]api.Op{nil, {odd}}, [][]api.Op{streams[0], append(slices.Clone(streams[1]), odd)})
	}
	return list
}

// P21.1: a plan that isn't good is ErrPlan to all calls, whatever the streams are: it comes ahead of ErrForm.
func TestPlansThatAreNotGood(t *testing.T) {
	_, good, _ := fine()
	for _, p := range badPlans() {
		expectRefused(t, p, good, errPlan)
		for _, streams := range [][][]api.Op{nil, {nil}, {nil, nil, nil}, {{{Kind: 3}}, nil}} {
			expectRefused(t, p, streams, errPlan)
		}
		// As many streams as it has sources don't make it good.
		if 0 <= p.Sources && p.Sources < 9 {
			expectRefused(t, p, make([][]api.Op, p.Sources), errPlan)
		}
	}
}

// P21.1: streams that aren't as many as the sources, and operations of a Kind that is neither, are ErrForm to all calls.
func TestStreamsThatAreNotInForm(t *testing.T) {
	p, good, log := fine()
	for _, streams := range wrongStreams() {
		expectRefused(t, p, streams, errForm)
	}
	// The same calls of what is in form.
	if err := audit.Check(p, good, log); err != nil || expectCheck(t, p, good, log) != nil {
		t.Error(err)
	}
	expectAll(t, p, good)
}

// P21.1: with each number of sources just so many streams are taken.
func TestAsManyStreamsAsSources(t *testing.T) {
	for sources := 1; sources <= 4; sources++ {
		p := sized(sources, 1, 10)
		for n := range 8 {
			streams := make([][]api.Op, n)
			if n != sources {
				expectRefused(t, p, streams, errForm)
				continue
			}
			if err := audit.Check(p, streams, nil); err != nil {
				t.Errorf("%d streams of %d sources: %v", n, sources, err)
			}
			expectAll(t, p, streams)
		}
	}
}

// P21.1: numbers of samples and marks that no source would give are taken all the same: times that fall, keys and numbers of any kind.
func TestStreamsOfAnyNumbers(t *testing.T) {
	p := sized(2, 3, 10, 1)
	numbers := []int{least, least + 1, -11, -1, 0, 1, 10, greatest - 1, greatest}
	s := scramble(4)
	for range 300 {
		streams := make([][]api.Op, 2)
		for source := range streams {
			for range s.next(6) {
				o := api.Op{Seq: s.of(numbers...), Kind: 1 + s.next(2), Time: s.of(numbers...), Key: s.of(numbers...), Value: s.of(numbers...)}
				streams[source] = append(streams[source], o)
			}
		}
		expectAll(t, p, streams)
		for _, win := range numbers {
			expectRead(t, p, streams, s.next(2), win, s.of(numbers...))
			expectCell(t, p, streams, named(s.of(numbers...), win, s.of(numbers...)))
		}
	}
}
