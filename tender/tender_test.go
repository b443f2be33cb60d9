package tender_test

import (
	"slices"
	"testing"

	"estuary/api"
	"estuary/note"
	"estuary/tender"
)

// sizes is plans of all numbers of sources and keepers.
func sizes() []api.Plan {
	var list []api.Plan
	for sources := 1; sources <= 4; sources++ {
		for _, keepers := range []int{1, 3, 5} {
			p := ordinary()
			p.Sources, p.Keepers = sources, keepers
			list = append(list, p)
		}
	}
	return append(list, single(), widest())
}

// P20.1: the chapter's example: the first Tick sends an NNeed 1 to each source, an NPrepare of key 0 to each keeper, and nothing else.
func TestExample(t *testing.T) {
	p := api.Plan{Sources: 2, Keepers: 3, Res: []int{10}, Shards: 1, Hold: 9, Cells: 9, Batch: 2, Lease: 3}
	x, err := tender.New(2, 0, p)
	if err != nil {
		t.Fatal(err)
	}
	is(t, x.Tick(),
		api.Note{Kind: isNeed, From: 2, To: 0, Nums: []int{1}},
		api.Note{Kind: isNeed, From: 2, To: 1, Nums: []int{1}},
		api.Note{Kind: isPrepare, From: 2, To: 4, Nums: []int{0, 1, 2, 0}},
		api.Note{Kind: isPrepare, From: 2, To: 5, Nums: []int{0, 1, 2, 0}},
		api.Note{Kind: isPrepare, From: 2, To: 6, Nums: []int{0, 1, 2, 0}},
	)
}

// P20.1: the first Tick of each tender of each size of cluster, in some of its lives.
func TestFirstTick(t *testing.T) {
	for _, p := range sizes() {
		for i := range tenders {
			for _, life := range []int{0, 1, 77, greatest} {
				o := made(t, tenderNode(p, i), life, p)
				b := api.Ballot{N: 1, Node: p.Sources + i, Life: life}
				ones := slices.Repeat([]int{1}, p.Sources)
				is(t, o.tick(t), append(o.needsOf(nil, ones...), o.preparesOf(0, b)...)...)
			}
		}
	}
}

// P20.1: New takes just the plan's two tenders, in lives from 0 on.
func TestNew(t *testing.T) {
	for _, p := range sizes() {
		for node := -2; node <= sinkNode(p)+2; node++ {
			for _, life := range []int{least, -1, 0, 1, greatest} {
				x, err := tender.New(node, life, p)
				good := (node == p.Sources || node == p.Sources+1) && life >= 0
				if good != (err == nil) || good != (x != nil) || !good && err != errForm {
					t.Errorf("New(%d, %d, %v): %v, %v", node, life, p, x, err)
				}
			}
		}
		for _, node := range []int{least, greatest, 1 << 32, 1<<32 + p.Sources} {
			if x, err := tender.New(node, 0, p); x != nil || err != errForm {
				t.Errorf("New(%d, 0, %v): %v, %v", node, p, x, err)
			}
		}
	}
}

// spoiled is plans that aren't good, each by one number.
func spoiled() []api.Plan {
	var list []api.Plan
	for _, change := range []func(p *api.Plan){
		func(p *api.Plan) { p.Sources = 0 },
		func(p *api.Plan) { p.Sources = 5 },
		func(p *api.Plan) { p.Keepers = 2 },
		func(p *api.Plan) { p.Keepers = 7 },
		func(p *api.Plan) { p.Res = nil },
		func(p *api.Plan) { p.Res = []int{10, 0} },
		func(p *api.Plan) { p.Res = []int{1, 2, 3, 4} },
		func(p *api.Plan) { p.Shards = 0 },
		func(p *api.Plan) { p.Shards = 5 },
		func(p *api.Plan) { p.Hold = 0 },
		func(p *api.Plan) { p.Hold = 65 },
		func(p *api.Plan) { p.Cells = 0 },
		func(p *api.Plan) { p.Cells = 1025 },
		func(p *api.Plan) { p.Batch = 0 },
		func(p *api.Plan) { p.Batch = 17 },
		func(p *api.Plan) { p.Lease = 0 },
		func(p *api.Plan) { p.Lease = 21 },
	} {
		p := ordinary()
		change(&p)
		list = append(list, p)
	}
	return append(list, api.Plan{})
}

// P20.1: of a plan that isn't good New answers ErrPlan, whatever node and life are.
func TestNewOfSpoiledPlans(t *testing.T) {
	for _, p := range spoiled() {
		for node := -1; node <= 9; node++ {
			for _, life := range []int{-1, 0, 1} {
				if x, err := tender.New(node, life, p); x != nil || err != errPlan {
					t.Errorf("New(%d, %d, %v): %v, %v", node, life, p, x, err)
				}
			}
		}
	}
}

// P20.1: a tender that was told nothing yet.
func TestHoldsNothing(t *testing.T) {
	for _, p := range sizes() {
		x, err := tender.New(tenderNode(p, 1), 3, p)
		if err != nil {
			t.Fatal(err)
		}
		if epoch, ok := x.Leads(); epoch != 0 || ok {
			t.Error(epoch, ok)
		}
		if l, ok := x.Lease(); l != (api.Lease{}) || ok {
			t.Error(l, ok)
		}
		if cursor, ok := x.Cursor(); len(cursor) != 0 || ok {
			t.Error(cursor, ok)
		}
		for lane := range lanes(p) {
			if at := x.Base(lane); at != start() {
				t.Error(lane, at)
			}
		}
		for source := range p.Sources {
			if n := x.Next(source); n != 1 {
				t.Error(source, n)
			}
		}
		none := []api.Place{x.Base(-1), x.Base(lanes(p)), x.Base(least), x.Base(greatest)}
		if slices.Max([]int{x.Next(-1), x.Next(p.Sources), x.Next(least), x.Next(greatest), x.Cells()}) != 0 {
			t.Error("there is a number of nothing")
		}
		if !slices.Equal(none, make([]api.Place, 4)) {
			t.Error(none)
		}
		if c, ok := x.Cell(api.Id{}); c != (api.Cell{}) || ok {
			t.Error(c, ok)
		}
	}
}

// P20.1: while nobody answers, a round has five ticks, and the next one is of the other key, by the next ballot.
func TestRoundsThatNobodyAnswers(t *testing.T) {
	for _, p := range sizes() {
		o := first(t, 2, p)
		for i := range 40 {
			list := o.needsOf(nil, slices.Repeat([]int{1}, p.Sources)...)
			if i%roundTicks == 0 {
				n := i / roundTicks
				list = append(list, o.preparesOf(n%2, api.Ballot{N: n + 1, Node: o.m.node, Life: 2})...)
			}
			is(t, o.tick(t), list...)
		}
	}
}

// stages is how far a round may come: what is done to it, and whether it is over then.
var stages = []struct {
	name string
	do   func(t *testing.T, o *pair, key int, b api.Ballot)
	over bool
}{
	{"unanswered", func(t *testing.T, o *pair, key int, b api.Ballot) {}, false},
	{"promised by one", func(t *testing.T, o *pair, key int, b api.Ballot) {
		is(t, o.handle(t, o.promise(1, key, b, api.Ballot{})))
	}, false},
	{"promised by one, twice", func(t *testing.T, o *pair, key int, b api.Ballot) {
		is(t, o.handle(t, o.promise(1, key, b, api.Ballot{})))
		is(t, o.handle(t, o.promise(1, key, b, api.Ballot{})))
	}, false},
	{"accepted ahead of the promises", func(t *testing.T, o *pair, key int, b api.Ballot) {
		o.accepted(t, key, b)
	}, false},
	{"told", func(t *testing.T, o *pair, key int, b api.Ballot) {
		o.promised(t, key, b)
	}, false},
	{"told, and promised by a third one", func(t *testing.T, o *pair, key int, b api.Ballot) {
		o.promised(t, key, b)
		is(t, o.handle(t, o.promise(2, key, b, api.Ballot{})))
	}, false},
	{"accepted by one", func(t *testing.T, o *pair, key int, b api.Ballot) {
		o.promised(t, key, b)
		is(t, o.handle(t, o.done(2, key, b)))
		is(t, o.handle(t, o.done(2, key, b)))
	}, false},
	{"refused with its own ballot", func(t *testing.T, o *pair, key int, b api.Ballot) {
		is(t, o.handle(t, o.no(0, key, b, b)))
	}, false},
	{"refused with a lesser ballot", func(t *testing.T, o *pair, key int, b api.Ballot) {
		is(t, o.handle(t, o.no(0, key, b, api.Ballot{N: b.N, Node: b.Node, Life: b.Life - 1})))
	}, false},
	{"done", func(t *testing.T, o *pair, key int, b api.Ballot) {
		o.promised(t, key, b)
		o.accepted(t, key, b)
	}, true},
	{"lost while asking", func(t *testing.T, o *pair, key int, b api.Ballot) {
		is(t, o.handle(t, o.no(0, key, b, api.Ballot{N: b.N, Node: b.Node, Life: b.Life + 1})))
	}, true},
	{"lost while telling", func(t *testing.T, o *pair, key int, b api.Ballot) {
		o.promised(t, key, b)
		is(t, o.handle(t, o.no(0, key, b, api.Ballot{N: b.N, Node: b.Node, Life: b.Life + 1})))
	}, true},
}

// P20.1: a round that is over is followed by the next Tick's; another one has its five ticks, however far it came and whenever it came there. Its key is the other one each time.
func TestRoundsEnds(t *testing.T) {
	for _, s := range stages {
		for wait := range roundTicks {
			o := first(t, 0, ordinary())
			for i := range 6 {
				key, b, ok := prepared(o.tick(t))
				if !ok || key != i%2 {
					t.Fatalf("%s behind %d ticks: round %d is of key %d, %v", s.name, wait, i, key, ok)
				}
				for range wait {
					if _, _, ok := prepared(o.tick(t)); ok {
						t.Fatalf("%s behind %d ticks: a round begins too early", s.name, wait)
					}
				}
				s.do(t, o, key, b)
				for more := wait + 1; more < roundTicks && !s.over; more++ {
					if _, _, ok := prepared(o.tick(t)); ok {
						t.Fatalf("%s behind %d ticks: the next round begins in place of %d", s.name, wait, more)
					}
				}
			}
		}
	}
}

// P20.1: answers to a round that is over, or in whose place there is another one, do nothing: the round under way goes on.
func TestAnswersThatComeLate(t *testing.T) {
	for _, s := range stages {
		o := first(t, 0, ordinary())
		key, b, _ := prepared(o.tick(t))
		s.do(t, o, key, b)
		var next api.Ballot
		for ok := false; !ok; {
			_, next, ok = prepared(o.tick(t))
		}
		for keeper := range 3 {
			for k := range 2 {
				is(t, o.handle(t, o.promise(keeper, k, b, api.Ballot{N: 1}, 7)))
				is(t, o.handle(t, o.done(keeper, k, b)))
				is(t, o.handle(t, o.no(keeper, k, b, b)))
			}
		}
		// It is asking still: it tells what it read, and then is done.
		if told := o.promised(t, 1, next, 5); !slices.Equal(told, []int{5}) {
			t.Fatalf("%s: the next round tells %v", s.name, told)
		}
		o.accepted(t, 1, next)
		if key, _, ok := prepared(o.tick(t)); key != 0 || !ok {
			t.Fatalf("%s: the round behind the next one: %d, %v", s.name, key, ok)
		}
	}
}

// P20.1: a round that is done leaves its late promises and acceptances without an answer, and they begin nothing.
func TestAnswersBehindTheEnd(t *testing.T) {
	o := first(t, 0, ordinary())
	key, b, _ := prepared(o.tick(t))
	o.promised(t, key, b, 7)
	o.accepted(t, key, b)
	for keeper := range 3 {
		is(t, o.handle(t, o.promise(keeper, key, b, api.Ballot{N: 9}, 8)))
		is(t, o.handle(t, o.done(keeper, key, b)))
		is(t, o.handle(t, o.no(keeper, key, b, api.Ballot{})))
	}
	is(t, o.tick(t), append(o.needsOf(nil, 1, 1), o.preparesOf(1, api.Ballot{N: 2, Node: 2})...)...)
}

// P20.1: a majority of the keepers is enough, and less isn't; each counts once. What is told to them is the newest value that they promised with.
func TestMajorities(t *testing.T) {
	for _, keepers := range []int{1, 3, 5} {
		p := ordinary()
		p.Keepers = keepers
		for skip := range keepers {
			o := first(t, 0, p)
			_, b, _ := prepared(o.tick(t))
			var newest []int
			for i := range keepers/2 + 1 {
				keeper := (skip + i) % keepers
				n := o.promise(keeper, 0, b, api.Ballot{N: 1, Node: 10 + keeper}, 50+keeper)
				newest = []int{max(50+keeper, slices.Max(append(newest, 0)))}
				sent := o.handle(t, n)
				if i < keepers/2 {
					is(t, sent)
					is(t, o.handle(t, n))
					continue
				}
				var want []api.Note
				for k := range keepers {
					want = append(want, api.Note{Kind: isAccept, From: 2, To: 4 + k, Nums: append(asked(0, b), newest...)})
				}
				is(t, sent, want...)
			}
			for i := range keepers/2 + 1 {
				keeper := (skip + keepers - i) % keepers
				if _, _, over := prepared(o.tick(t)); over {
					t.Fatalf("%d of %d acceptances are enough", i, keepers)
				}
				is(t, o.handle(t, o.done(keeper, 0, b)))
				is(t, o.handle(t, o.done(keeper, 0, b)))
			}
			if key, next, ok := prepared(o.tick(t)); key != 1 || next.N != 2 || !ok {
				t.Fatalf("%d keepers: %d, %v, %v", keepers, key, next, ok)
			}
		}
	}
}

// P20.1: a round tells the values of registers as they are, of no number up to the most that there may be.
func TestValuesOfEachLength(t *testing.T) {
	for key := range 2 {
		for n := range mostValue + 1 {
			o := first(t, 0, ordinary())
			var value []int
			for i := range n {
				value = append(value, -3*i)
			}
			if told := o.settle(t, key, value...); !slices.Equal(told, value) {
				t.Errorf("a round of key %d told %v, of %v", key, told, value)
			}
		}
	}
}

// refusals is what an NNo tells, and the ballot of the round that begins behind it, for a round of ballot {1, 2, 5}.
var refusals = []struct{ told, next api.Ballot }{
	{api.Ballot{}, api.Ballot{N: 2, Node: 2, Life: 5}},
	{api.Ballot{N: 1, Node: 2, Life: 5}, api.Ballot{N: 2, Node: 2, Life: 5}},
	{api.Ballot{N: 1, Node: 2, Life: 4}, api.Ballot{N: 2, Node: 2, Life: 5}},
	{api.Ballot{N: 1, Node: 2, Life: 6}, api.Ballot{N: 2, Node: 2, Life: 5}},
	{api.Ballot{N: 1, Node: 3}, api.Ballot{N: 2, Node: 2, Life: 5}},
	{api.Ballot{N: 0, Node: 99, Life: 99}, api.Ballot{N: 2, Node: 2, Life: 5}},
	{api.Ballot{N: -7, Node: 9, Life: 9}, api.Ballot{N: 2, Node: 2, Life: 5}},
	{api.Ballot{N: 2}, api.Ballot{N: 3, Node: 2, Life: 5}},
	{api.Ballot{N: 2, Node: -1, Life: -1}, api.Ballot{N: 3, Node: 2, Life: 5}},
	{api.Ballot{N: 40, Node: 3, Life: 1}, api.Ballot{N: 41, Node: 2, Life: 5}},
	{api.Ballot{N: greatest - 1}, api.Ballot{N: greatest, Node: 2, Life: 5}},
}

// P20.1: the next ballot is behind the greatest one that it made, or met in an NNo.
func TestBallotBehindARefusal(t *testing.T) {
	for _, r := range refusals {
		for keeper := range 3 {
			o := first(t, 5, ordinary())
			_, b, _ := prepared(o.tick(t))
			is(t, o.handle(t, o.no(keeper, 0, b, r.told)))
			if next := o.begin(t, 1); next != r.next {
				t.Errorf("behind a refusal with %v: %v, want %v", r.told, next, r.next)
			}
		}
	}
}

// P20.1: an NNo of any round tells of greater ballots, also of one that is over, of another key or of an earlier life; the round under way isn't lost by it.
func TestBallotBehindARefusalOfAnotherRound(t *testing.T) {
	for _, r := range refusals {
		for _, of := range []api.Ballot{{N: 1, Node: 2, Life: 4}, {N: 1, Node: 2, Life: 6}, {N: 2, Node: 2, Life: 5}, {N: 1, Node: 3, Life: 5}, {}} {
			for key := -1; key <= 2; key++ {
				o := first(t, 5, ordinary())
				o.tick(t)
				is(t, o.handle(t, o.no(1, key, of, r.told)))
				for range roundTicks - 1 {
					is(t, o.tick(t), o.needsOf(nil, 1, 1)...)
				}
				is(t, o.tick(t), append(o.needsOf(nil, 1, 1), o.preparesOf(1, r.next)...)...)
			}
		}
	}
}

// P20.1: an NNo that comes when no round is under way tells of greater ballots, too.
func TestBallotBehindARefusalWithoutARound(t *testing.T) {
	for _, r := range refusals {
		o := first(t, 5, ordinary())
		_, b, _ := prepared(o.tick(t))
		o.promised(t, 0, b)
		o.accepted(t, 0, b)
		is(t, o.handle(t, o.no(1, 0, b, r.told)))
		is(t, o.tick(t), append(o.needsOf(nil, 1, 1), o.preparesOf(1, r.next)...)...)
	}
}

// P20.1: the greatest ballot counts, however the refusals come; what keepers promise or accepted isn't met in an NNo.
func TestGreatestBallot(t *testing.T) {
	o := first(t, 0, ordinary())
	_, b, _ := prepared(o.tick(t))
	for _, n := range []int{30, 8, 25} {
		is(t, o.handle(t, o.no(0, 0, b, api.Ballot{N: n, Node: 3})))
	}
	if next := o.begin(t, 1); next.N != 31 {
		t.Error(next)
	}
	b = o.begin(t, 0)
	is(t, o.handle(t, o.promise(0, 0, b, api.Ballot{N: 500, Node: 3}, 1, 2)))
	o.promised(t, 0, b)
	o.accepted(t, 0, b)
	if next := o.begin(t, 1); next.N != b.N+1 {
		t.Error(b, next)
	}
}

// P20.1: behind a ballot of the greatest number there is none, so that no round begins any more; all else goes on.
func TestBehindTheGreatestBallot(t *testing.T) {
	o := first(t, 0, ordinary())
	o.lead(t, 3)
	b := o.begin(t, 1)
	is(t, o.handle(t, o.no(0, 1, b, api.Ballot{N: greatest, Node: 1})))
	o.feed(t, 0, sampleOf(0, 5, 1), markOf(0, 10))
	o.feed(t, 1, markOf(0, 10))
	for range 3 * roundTicks {
		list := o.tick(t)
		if len(of(list, isNeed)) != 2 || len(of(list, isPrepare)) != 0 || len(of(list, isBatch)) != 4 {
			t.Fatal(short(list))
		}
	}
}

// P20.1: a nil Tender tells nothing, and does nothing.
func TestNil(t *testing.T) {
	var x *tender.Tender
	o := first(t, 0, ordinary())
	for _, n := range []api.Note{{}, o.replay(0, 1, 1, starts(o.m.p), markOf(1, 5)), o.ack(0, 1, upTo(3)), o.no(0, 0, api.Ballot{}, api.Ballot{})} {
		n.To = 0
		is(t, x.Handle(n))
	}
	is(t, x.Tick())
	if epoch, ok := x.Leads(); epoch != 0 || ok {
		t.Error(epoch, ok)
	}
	if l, ok := x.Lease(); l != (api.Lease{}) || ok {
		t.Error(l, ok)
	}
	if cursor, ok := x.Cursor(); len(cursor) != 0 || ok {
		t.Error(cursor, ok)
	}
	if c, ok := x.Cell(api.Id{}); c != (api.Cell{}) || ok {
		t.Error(c, ok)
	}
	for _, n := range []int{least, -1, 0, 1, greatest} {
		if x.Base(n) != (api.Place{}) || x.Next(n) != 0 || x.Cells() != 0 {
			t.Error(n, x.Base(n), x.Next(n), x.Cells())
		}
	}
}

// P20.1: all that a tender sends comes in the order of kinds: of its sources, of its keepers, of its lanes.
func TestKindsInOrder(t *testing.T) {
	o := first(t, 4, ordinary())
	o.lead(t, 6)
	o.settle(t, 1)
	for key := range 2 {
		o.feed(t, 0, sampleOf(0, 5, key), sampleOf(0, 15, key))
	}
	o.mark(t, 30)
	list := o.tick(t)
	b := api.Ballot{N: o.m.ballots[len(o.m.ballots)-1].N, Node: 2, Life: 4}
	want := append(o.needsOf(starts(o.m.p), 6, 2), o.preparesOf(0, b)...)
	for lane := range 4 {
		to := []api.Place{upTo(3), upTo(3), upTo(1), upTo(1)}[lane]
		key := lane % 2
		n := api.Note{Kind: isBatch, From: 2, To: 7, Nums: []int{6, lane, least, least, to.Win, to.Key}}
		for _, win := range [][]int{{0, 1}, {0, 1}, {0}, {0}}[lane] {
			id := api.Id{Lane: lane, Place: at(win, key)}
			c, ok := o.x.Cell(id)
			if !ok {
				t.Fatal(id)
			}
			n.Entries = append(n.Entries, api.Entry{Place: id.Place, Cell: c})
		}
		want = append(want, n)
	}
	is(t, list, want...)
	for _, n := range list {
		if err := note.Check(n); err != nil {
			t.Error(n, err)
		}
	}
}
