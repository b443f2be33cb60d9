package tender_test

import (
	"math"
	"slices"
	"testing"

	"estuary/api"
	"estuary/basin"
	"estuary/gate"
	"estuary/note"
	"estuary/tender"
	"estuary/tenure"
)

// As the document writes them.
const (
	least    = math.MinInt
	greatest = math.MaxInt

	isSample = 1
	isMark   = 2

	isPrepare = 1
	isPromise = 2
	isAccept  = 3
	isDone    = 4
	isNo      = 5
	isNeed    = 6
	isReplay  = 7
	isBatch   = 8
	isAck     = 9

	tenders    = 2
	mostValue  = 32
	roundTicks = 5

	errForm = api.Errno(2)
	errPlan = api.Errno(14)
)

// scramble is a row of numbers without an order to be seen, the same one for each seed.
type scramble uint64

// next is a number from 0 to n - 1.
func (s *scramble) next(n int) int {
	*s = *s*6364136223846793005 + 1442695040888963407
	return int(uint64(*s)>>33) % n
}

// at is a place.
func at(win, key int) api.Place { return api.Place{Win: win, Key: key} }

// upTo is the place ahead of which all is that is ahead of a window.
func upTo(win int) api.Place { return at(win, least) }

// start is the least place.
func start() api.Place { return upTo(least) }

// starts is the least place of each lane of a plan.
func starts(p api.Plan) []api.Place {
	return slices.Repeat([]api.Place{start()}, lanes(p))
}

// ahead tells whether a place is ahead of another one.
func ahead(a, b api.Place) bool {
	return a.Win < b.Win || a.Win == b.Win && a.Key < b.Key
}

// numbers is places as numbers.
func numbers(places ...api.Place) []int {
	var nums []int
	for _, p := range places {
		nums = append(nums, p.Win, p.Key)
	}
	return nums
}

// placed is numbers as places.
func placed(nums []int) []api.Place {
	var places []api.Place
	for i := 0; i+1 < len(nums); i += 2 {
		places = append(places, at(nums[i], nums[i+1]))
	}
	return places
}

// lanes is how many lanes a plan has.
func lanes(p api.Plan) int { return len(p.Res) * p.Shards }

// tenderNode, keeperNode and sinkNode are a plan's nodes; a source's node is its own number.
func tenderNode(p api.Plan, i int) int { return p.Sources + i }
func keeperNode(p api.Plan, i int) int { return p.Sources + tenders + i }
func sinkNode(p api.Plan) int          { return p.Sources + tenders + p.Keepers }

// asked is a ballot as numbers, behind its register's key.
func asked(key int, b api.Ballot) []int { return []int{key, b.N, b.Node, b.Life} }

// ballotAt is the ballot that stands at a place of numbers.
func ballotAt(nums []int, i int) api.Ballot {
	return api.Ballot{N: nums[i], Node: nums[i+1], Life: nums[i+2]}
}

// above compares ballots, as sorting asks for it.
func above(a, b api.Ballot) int {
	return slices.Compare([]int{a.N, a.Node, a.Life}, []int{b.N, b.Node, b.Life})
}

// talk is a round that is under way: what it is, the first promise of each keeper, up to a majority of them, and who accepted.
type talk struct {
	key      int
	ballot   api.Ballot
	change   api.Change
	begun    int // with which tick
	promises []api.Note
	dones    []int
}

// model is a tender by the chapter's words. It holds all ballots ever made or met and all answers to its round, and works the rest out of them each time; the basin and the watch are those of their layers.
type model struct {
	node, life int
	p          api.Plan
	basin      *basin.Basin
	watch      *tenure.Watch
	ticks      int
	ballots    []api.Ballot
	rounds     int
	talk       *talk
	cursors    [][]int // all values of the cursor's register that it saw
}

// newModel is a model of a tender of a good plan.
func newModel(t *testing.T, node, life int, p api.Plan) *model {
	t.Helper()
	p.Res = slices.Clone(p.Res)
	b, err := basin.New(p.Sources, p.Res, p.Shards, p.Cells)
	if err != nil {
		t.Fatal(err)
	}
	w, err := tenure.New(node, life, p.Lease)
	if err != nil {
		t.Fatal(err)
	}
	return &model{node: node, life: life, p: p, basin: b, watch: w, ballots: []api.Ballot{{}}}
}

// cursor is the value that it saw last, its places, and whether it counts as seen.
func (m *model) cursor() ([]int, []api.Place, bool) {
	if len(m.cursors) == 0 {
		return nil, nil, false
	}
	value := m.cursors[len(m.cursors)-1]
	switch len(value) {
	case 0:
		return value, starts(m.p), true
	case 2 * lanes(m.p):
		return value, placed(value), true
	}
	return nil, nil, false
}

// tick is a tick.
func (m *model) tick() []api.Note {
	m.ticks++
	m.watch.Tick()
	return slices.Concat(m.needs(), m.prepares(), m.batches())
}

// needs is what it asks the sources.
func (m *model) needs() []api.Note {
	_, places, _ := m.cursor()
	var list []api.Note
	for source := range m.p.Sources {
		nums := append([]int{m.basin.Next(source)}, numbers(places...)...)
		list = append(list, api.Note{Kind: isNeed, From: m.node, To: source, Nums: nums})
	}
	return list
}

// prepares is what it asks the keepers, where a round begins.
func (m *model) prepares() []api.Note {
	if m.talk != nil && m.ticks-m.talk.begun < roundTicks {
		return nil
	}
	top := slices.MaxFunc(m.ballots, above)
	if top.N == greatest {
		return nil
	}
	b := api.Ballot{N: top.N + 1, Node: m.node, Life: m.life}
	m.talk = &talk{key: m.rounds % 2, ballot: b, begun: m.ticks}
	m.talk.change = m.want(m.talk.key)
	m.ballots = append(m.ballots, b)
	m.rounds++
	return m.all(isPrepare)
}

// all is a note to each keeper.
func (m *model) all(kind int, value ...int) []api.Note {
	var list []api.Note
	for i := range m.p.Keepers {
		nums := append(asked(m.talk.key, m.talk.ballot), value...)
		list = append(list, api.Note{Kind: kind, From: m.node, To: keeperNode(m.p, i), Nums: nums})
	}
	return list
}

// want is what it wants of a register.
func (m *model) want(key int) api.Change {
	if key == 0 {
		return m.watch.Want()
	}
	value, places, seen := m.cursor()
	_, leads := m.watch.Leads()
	var greater []api.Place
	beyond := false
	for lane, p := range places {
		base := m.basin.Base(lane)
		beyond = beyond || ahead(p, base)
		if ahead(p, base) {
			p = base
		}
		greater = append(greater, p)
	}
	if !leads || !seen || !beyond {
		return api.Change{Kind: api.ChRead}
	}
	return api.Change{Kind: api.ChSwap, Old: value, New: numbers(greater...)}
}

// batches is what it sends to the sink.
func (m *model) batches() []api.Note {
	epoch, leads := m.watch.Leads()
	if !leads {
		return nil
	}
	var list []api.Note
	for lane := range lanes(m.p) {
		b, ok := gate.Next(m.basin, epoch, lane, m.p.Batch)
		if !ok {
			continue
		}
		nums := append([]int{b.Epoch, b.Lane}, numbers(b.From, b.To)...)
		list = append(list, api.Note{Kind: isBatch, From: m.node, To: sinkNode(m.p), Nums: nums, Entries: b.Entries})
	}
	return list
}

// handle handles a note.
func (m *model) handle(n api.Note) []api.Note {
	if n.To != m.node || note.Check(n) != nil {
		return nil
	}
	keeper := n.From - keeperNode(m.p, 0)
	switch {
	case n.Kind == isReplay && n.From < m.p.Sources:
		m.basin.Feed(n.From, n.Nums[0], n.Nums[1], placed(n.Nums[2:]), n.Ops)
	case n.Kind == isAck && n.From == sinkNode(m.p):
		m.basin.Raise(n.Nums[0], at(n.Nums[2], n.Nums[3]))
	case n.Kind == isPromise || n.Kind == isDone || n.Kind == isNo:
		if keeper >= 0 && keeper < m.p.Keepers {
			return m.hear(n)
		}
	}
	return nil
}

// hear takes a keeper's answer.
func (m *model) hear(n api.Note) []api.Note {
	if n.Kind == isNo {
		m.ballots = append(m.ballots, ballotAt(n.Nums, 4))
	}
	r := m.talk
	if r == nil || n.Nums[0] != r.key || ballotAt(n.Nums, 1) != r.ballot {
		return nil
	}
	telling := m.most(len(r.promises))
	from := func(x api.Note) bool { return x.From == n.From }
	switch {
	case n.Kind == isNo && above(ballotAt(n.Nums, 4), r.ballot) > 0:
		m.talk = nil
	case n.Kind == isPromise && !telling && !slices.ContainsFunc(r.promises, from):
		n.Nums = slices.Clone(n.Nums)
		r.promises = append(r.promises, n)
		if m.most(len(r.promises)) {
			return m.all(isAccept, r.value()...)
		}
	case n.Kind == isDone && telling && !slices.Contains(r.dones, n.From):
		r.dones = append(r.dones, n.From)
		if m.most(len(r.dones)) {
			m.talk = nil
			m.learn(r.key, r.value())
		}
	}
	return nil
}

// most tells whether so many keepers are a majority.
func (m *model) most(n int) bool { return n >= m.p.Keepers/2+1 }

// value is what the round tells.
func (r *talk) value() []int {
	var newest []int
	var of api.Ballot
	// The keepers' order, since the first one of equal ballots counts.
	slices.SortFunc(r.promises, func(a, b api.Note) int { return a.From - b.From })
	for _, n := range r.promises {
		if b := ballotAt(n.Nums, 4); above(b, of) > 0 {
			newest, of = n.Nums[7:], b
		}
	}
	if r.change.Kind == api.ChSwap && slices.Equal(newest, r.change.Old) {
		newest = r.change.New
	}
	return slices.Clone(newest)
}

// learn takes what a round came to.
func (m *model) learn(key int, value []int) {
	if key == 0 {
		m.watch.Saw(value)
		return
	}
	m.cursors = append(m.cursors, value)
	_, places, _ := m.cursor()
	for lane, p := range places {
		m.basin.Raise(lane, p)
	}
}

// pair is a tender and its model, to which the same happens.
type pair struct {
	x *tender.Tender
	m *model
}

// made is a pair that holds nothing.
func made(t *testing.T, node, life int, p api.Plan) *pair {
	t.Helper()
	x, err := tender.New(node, life, p)
	if x == nil || err != nil {
		t.Fatalf("New(%d, %d, %v): %v, %v", node, life, p, x, err)
	}
	o := &pair{x, newModel(t, node, life, p)}
	o.expect(t)
	return o
}

// tick lets both tick, and checks what is sent.
func (o *pair) tick(t *testing.T) []api.Note {
	t.Helper()
	got, want := o.x.Tick(), o.m.tick()
	o.expectSent(t, got, want)
	o.expect(t)
	o.expectCells(t)
	return got
}

// handle hands a note to both, and checks what is sent.
func (o *pair) handle(t *testing.T, n api.Note) []api.Note {
	t.Helper()
	got, want := o.x.Handle(n), o.m.handle(n)
	o.expectSent(t, got, want)
	o.expect(t)
	// The other kinds don't join samples: how many cells there are tells enough.
	if n.Kind == isReplay {
		o.expectCells(t)
	}
	return got
}

// expectSent checks notes against others, and that each is in form, from the tender, to a node of its plan.
func (o *pair) expectSent(t *testing.T, got, want []api.Note) {
	t.Helper()
	if !slices.EqualFunc(got, want, note.Same) {
		t.Fatalf("sent: %v, want %v", short(got), short(want))
	}
	for _, n := range got {
		if note.Check(n) != nil || n.From != o.m.node || n.To < 0 || n.To > sinkNode(o.m.p) {
			t.Fatalf("%v is sent", n)
		}
	}
}

// expect checks all that a tender tells.
func (o *pair) expect(t *testing.T) {
	t.Helper()
	epoch, leads := o.x.Leads()
	if want, ok := o.m.watch.Leads(); epoch != want || leads != ok {
		t.Fatalf("Leads: %d, %v, want %d, %v", epoch, leads, want, ok)
	}
	lease, seen := o.x.Lease()
	if want, ok := o.m.watch.Lease(); lease != want || seen != ok {
		t.Fatalf("Lease: %v, %v, want %v, %v", lease, seen, want, ok)
	}
	cursor, seen := o.x.Cursor()
	if _, want, ok := o.m.cursor(); !slices.Equal(cursor, want) || seen != ok {
		t.Fatalf("Cursor: %v, %v, want %v, %v", cursor, seen, want, ok)
	}
	for source := -1; source <= o.m.p.Sources; source++ {
		if got, want := o.x.Next(source), o.m.basin.Next(source); got != want {
			t.Fatalf("Next(%d): %d, want %d", source, got, want)
		}
	}
	if got, want := o.x.Cells(), o.m.basin.Len(); got != want || got > o.m.p.Cells {
		t.Fatalf("%d cells, want %d, at most %d", got, want, o.m.p.Cells)
	}
	for lane := -1; lane <= lanes(o.m.p); lane++ {
		if got, want := o.x.Base(lane), o.m.basin.Base(lane); got != want {
			t.Fatalf("Base(%d): %v, want %v", lane, got, want)
		}
	}
}

// expectCells checks all cells, and that there is none at some other places.
func (o *pair) expectCells(t *testing.T) {
	t.Helper()
	for lane := -1; lane <= lanes(o.m.p); lane++ {
		places := []api.Place{start(), at(0, 0), at(1, 1), at(greatest, greatest), o.m.basin.Base(lane)}
		for _, e := range o.m.basin.List(lane, at(greatest, greatest), o.m.p.Cells) {
			places = append(places, e.Place)
		}
		for _, p := range places {
			id := api.Id{Lane: lane, Place: p}
			c, ok := o.x.Cell(id)
			if want, wanted := o.m.basin.Cell(id); c != want || ok != wanted {
				t.Fatalf("Cell(%v): %v, %v, want %v, %v", id, c, ok, want, wanted)
			}
		}
	}
}

// brief is what is told of a note where a test fails: its entries by their places alone.
type brief struct {
	kind, from, to int
	nums           []int
	places         []api.Place
}

// short is notes without their cells, which are long.
func short(list []api.Note) []brief {
	var all []brief
	for _, n := range list {
		b := brief{n.Kind, n.From, n.To, n.Nums, nil}
		for _, e := range n.Entries {
			b.places = append(b.places, e.Place)
		}
		all = append(all, b)
	}
	return all
}
