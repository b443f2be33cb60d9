package round_test

import (
	"math"
	"slices"
	"testing"

	"estuary/api"
	"estuary/ballot"
	"estuary/change"
	"estuary/round"
)

const (
	least    = math.MinInt
	greatest = math.MaxInt
	most     = 32 // numbers of a value, as the document writes them
)

// The stages, by the numbers that the chapter gives them.
const (
	asking  = 1
	telling = 2
	done    = 3
	lost    = 4
)

// The kinds of changes, by their numbers.
const (
	read = 1
	swap = 2
)

// of is the ballot with these parts.
func of(n, node, life int) api.Ballot { return api.Ballot{N: n, Node: node, Life: life} }

// held is a register that accepted a value in a ballot.
func held(b api.Ballot, value ...int) api.Register {
	return api.Register{Promised: b, Accepted: b, Value: value}
}

// count is so many numbers, which differ, from a first one on.
func count(first, n int) []int {
	list := make([]int, n)
	for i := range list {
		list[i] = first + i
	}
	return list
}

// scramble is a row of numbers without an order to be seen, the same one for each seed.
type scramble uint64

// next is a number from 0 to n - 1.
func (s *scramble) next(n int) int {
	*s = *s*6364136223846793005 + 1442695040888963407
	return int(uint64(*s)>>33) % n
}

// model is a round by the chapter's words.
type model struct {
	n        int
	b        api.Ballot
	c        api.Change
	stage    int
	promised [5][]api.Register // by keeper, none or one
	accepted [5]bool
	value    []int
	err      error
	met      api.Ballot
}

// newModel is a model that is asking.
func newModel(n int, b api.Ballot, c api.Change) *model {
	return &model{n: n, b: b, c: c, stage: asking}
}

// mine tells whether an answer is for the model's round.
func (m *model) mine(keeper int, b api.Ballot) bool {
	return b.N == m.b.N && b.Node == m.b.Node && b.Life == m.b.Life && 0 <= keeper && keeper <= m.n-1
}

// majority tells whether so many keepers are one.
func (m *model) majority(n int) bool { return n >= m.n/2+1 }

func (m *model) promise(keeper int, b api.Ballot, x api.Register) bool {
	if !m.mine(keeper, b) || m.stage != asking || len(m.promised[keeper]) > 0 {
		return false
	}
	m.promised[keeper] = []api.Register{x}
	list := slices.Concat(m.promised[:]...)
	if !m.majority(len(list)) {
		return false
	}
	m.value, m.err = change.Do(m.c, change.Newest(list...))
	m.stage = telling
	return true
}

func (m *model) accept(keeper int, b api.Ballot) bool {
	if !m.mine(keeper, b) || m.stage != telling {
		return false
	}
	m.accepted[keeper] = true
	n := 0
	for _, ok := range m.accepted {
		if ok {
			n++
		}
	}
	if m.majority(n) {
		m.stage = done
	}
	return m.stage == done
}

func (m *model) refuse(keeper int, b, greater api.Ballot) bool {
	if !m.mine(keeper, b) || m.stage == done || m.stage == lost || !ballot.Less(m.b, greater) {
		return false
	}
	m.stage, m.met = lost, greater
	return true
}

// begin is a round, which is to begin.
func begin(t *testing.T, n int, b api.Ballot, c api.Change) *round.Round {
	t.Helper()
	r, err := round.Begin(n, b, c)
	if err != nil || r == nil {
		t.Fatalf("Begin(%d, %v, %v): %v", n, b, c, err)
	}
	return r
}

// expect checks what a round tells of itself.
func expect(t *testing.T, r *round.Round, m *model) {
	t.Helper()
	if r.Stage() != m.stage || r.Ballot() != m.b || r.Met() != m.met {
		t.Fatalf("stage %d, ballot %v, met %v, want %d, %v, %v", r.Stage(), r.Ballot(), r.Met(), m.stage, m.b, m.met)
	}
	if got := r.Value(); !slices.Equal(got, m.value) {
		t.Fatalf("in stage %d the value %v, want %v", m.stage, got, m.value)
	}
	var want []int
	var wantErr error
	if m.stage == done {
		want, wantErr = m.value, m.err
	}
	if got, err := r.Result(); !slices.Equal(got, want) || err != wantErr {
		t.Fatalf("in stage %d the result %v, %v, want %v, %v", m.stage, got, err, want, wantErr)
	}
}

// pair is a round and its model, which are told the same.
type pair struct {
	r *round.Round
	m *model
}

// both begins a round and its model.
func both(t *testing.T, n int, b api.Ballot, c api.Change) pair {
	t.Helper()
	p := pair{begin(t, n, b, c), newModel(n, b, c)}
	expect(t, p.r, p.m)
	return p
}

// check checks an answer, and what the round tells of itself behind it.
func (p pair) check(t *testing.T, name string, keeper int, b api.Ballot, got, want bool) {
	t.Helper()
	if got != want {
		t.Fatalf("%s(%d, %v): %v, want %v", name, keeper, b, got, want)
	}
	expect(t, p.r, p.m)
}

func (p pair) promise(t *testing.T, keeper int, b api.Ballot, x api.Register) {
	t.Helper()
	p.check(t, "Promise", keeper, b, p.r.Promise(keeper, b, x), p.m.promise(keeper, b, x))
}

func (p pair) accept(t *testing.T, keeper int, b api.Ballot) {
	t.Helper()
	p.check(t, "Accepted", keeper, b, p.r.Accepted(keeper, b), p.m.accept(keeper, b))
}

func (p pair) refuse(t *testing.T, keeper int, b, greater api.Ballot) {
	t.Helper()
	p.check(t, "Refused", keeper, b, p.r.Refused(keeper, b, greater), p.m.refuse(keeper, b, greater))
}

// to brings a round of a ballot to a stage, with no register that accepted any value.
func (p pair) to(t *testing.T, stage int) {
	t.Helper()
	if stage == lost {
		p.refuse(t, 0, p.m.b, of(greatest, 0, 0))
	}
	for keeper := 0; stage != lost && p.m.stage < min(stage, telling); keeper++ {
		p.promise(t, keeper, p.m.b, api.Register{})
	}
	for keeper := 0; stage == done && p.m.stage < done; keeper++ {
		p.accept(t, keeper, p.m.b)
	}
	if p.r.Stage() != stage {
		t.Fatalf("stage %d, want %d", p.r.Stage(), stage)
	}
}

// P11.1: the chapter's example.
func TestExample(t *testing.T) {
	b := of(1, 4, 0)
	r := begin(t, 3, b, change.Swap(nil, []int{5}))
	if r.Promise(0, b, api.Register{}) || !r.Promise(1, b, api.Register{}) {
		t.Error("two promises make it tell")
	}
	if r.Stage() != telling || !slices.Equal(r.Value(), []int{5}) {
		t.Error(r.Stage(), r.Value())
	}
	if r.Accepted(1, b) || !r.Accepted(2, b) || r.Stage() != done {
		t.Error("two acceptances make it done")
	}
	if value, err := r.Result(); !slices.Equal(value, []int{5}) || err != nil {
		t.Error(value, err)
	}
}

// P11.1: the stages and the errors have the numbers that the document gives them.
func TestNumbers(t *testing.T) {
	if round.Asking != asking || round.Telling != telling || round.Done != done || round.Lost != lost {
		t.Error(round.Asking, round.Telling, round.Done, round.Lost)
	}
	if _, err := round.Begin(0, of(1, 0, 0), change.Read()); err != api.Errno(2) {
		t.Error(err)
	}
	p := both(t, 1, of(1, 0, 0), change.Swap([]int{1}, nil))
	p.to(t, done)
	if _, err := p.r.Result(); err != api.Errno(11) {
		t.Error(err)
	}
}

// expectRefused checks that no round begins.
func expectRefused(t *testing.T, n int, b api.Ballot, c api.Change) {
	t.Helper()
	if r, err := round.Begin(n, b, c); r != nil || err != api.ErrForm {
		t.Errorf("Begin(%d, %v, kind %d with %d and %d numbers): %v, %v", n, b, c.Kind, len(c.Old), len(c.New), r, err)
	}
}

// P11.1: Begin at numbers of keepers.
func TestBeginByKeepers(t *testing.T) {
	for n := 1; n <= 5; n++ {
		both(t, n, of(3, 2, 1), change.Swap([]int{1}, []int{2}))
	}
	for _, n := range []int{0, 6, 7, -1, -2, -5, 100, 1 << 8, 1<<8 + 1, 1<<32 + 3, least, least + 1, greatest} {
		expectRefused(t, n, of(3, 2, 1), change.Swap([]int{1}, []int{2}))
	}
}

// P11.1: Begin at ballots of all parts at the edges: none below 0, and not no ballot.
func TestBeginByBallot(t *testing.T) {
	parts := []int{least, -1, 0, 1, 1 << 32, greatest}
	for _, n := range parts {
		for _, node := range parts {
			for _, life := range parts {
				b := of(n, node, life)
				if n < 0 || node < 0 || life < 0 || n == 0 && node == 0 && life == 0 {
					expectRefused(t, 3, b, change.Read())
				} else {
					both(t, 3, b, change.Read())
				}
			}
		}
	}
}

// P11.1: Begin at changes that are and aren't in form.
func TestBeginByChange(t *testing.T) {
	full, over := count(-3, most), count(-3, most+1)
	for _, c := range []api.Change{
		{Kind: read}, {Kind: read, Old: []int{}, New: make([]int, 0, 40)},
		{Kind: swap}, {Kind: swap, Old: []int{}}, {Kind: swap, Old: full}, {Kind: swap, New: full}, {Kind: swap, Old: full, New: full},
		{Kind: swap, Old: []int{least}, New: []int{greatest}},
	} {
		both(t, 5, of(0, 0, 1), c)
	}
	for _, c := range []api.Change{
		{}, {Old: []int{1}, New: []int{2}}, {Kind: 3}, {Kind: -1}, {Kind: 1<<32 + 1}, {Kind: 1<<8 + 2}, {Kind: least}, {Kind: greatest},
		{Kind: read, Old: []int{0}}, {Kind: read, New: []int{0}}, {Kind: read, Old: full, New: full},
		{Kind: swap, Old: over}, {Kind: swap, New: over}, {Kind: swap, Old: full, New: over}, {Kind: swap, Old: over, New: full},
	} {
		expectRefused(t, 5, of(0, 0, 1), c)
		expectRefused(t, 6, of(0, 0, 1), c)
		expectRefused(t, 5, of(0, 0, 0), c)
	}
}

// others is ballots that aren't {3, 2, 1}.
func others() []api.Ballot {
	return []api.Ballot{
		{}, of(3, 2, 0), of(3, 2, 2), of(3, 1, 1), of(3, 3, 1), of(2, 2, 1), of(4, 2, 1), of(1, 2, 3), of(-3, -2, -1),
		of(3, 2, 1+1<<32), of(3, 2+1<<32, 1), of(3+1<<32, 2, 1), of(greatest, greatest, greatest), of(least, 2, 1),
	}
}

// strangers is keepers that aren't from 0 to n - 1.
func strangers(n int) []int {
	return []int{-1, -2, -n, n, n + 1, 5, 6, 1 << 8, 1 << 32, 1<<32 + n - 1, least, least + n - 1, greatest}
}

// P11.1: answers for other ballots, and of other keepers, are nothing in each stage; so is a promise when it isn't asking, and an acceptance when it isn't telling.
func TestWhatIsntTaken(t *testing.T) {
	b, x := of(3, 2, 1), held(of(2, 9, 9), 7)
	for n := 1; n <= 5; n++ {
		for _, stage := range []int{asking, telling, done, lost} {
			p := both(t, n, b, change.Swap(nil, []int{5}))
			p.to(t, stage)
			for keeper := range n {
				for _, other := range others() {
					p.promise(t, keeper, other, x)
					p.accept(t, keeper, other)
					p.refuse(t, keeper, other, of(9, 0, 0))
					if !ballot.Less(b, other) {
						p.refuse(t, keeper, b, other)
					}
				}
				p.refuse(t, keeper, b, b)
				if stage != asking {
					p.promise(t, keeper, b, x)
				}
				if stage != telling {
					p.accept(t, keeper, b)
				}
				if stage == done || stage == lost {
					p.refuse(t, keeper, b, of(greatest, 9, 9))
				}
			}
			for _, keeper := range strangers(n) {
				p.promise(t, keeper, b, x)
				p.accept(t, keeper, b)
				p.refuse(t, keeper, b, of(9, 0, 0))
			}
			if p.r.Stage() != stage {
				t.Fatalf("of %d keepers stage %d became %d", n, stage, p.r.Stage())
			}
		}
	}
}

// majorities is how many keepers are just more than half of n.
var majorities = [...]int{1: 1, 2: 2, 3: 2, 4: 3, 5: 3}

// P11.1: at each number of keepers just a majority makes the next stage, in each order of the keepers, and one keeper that answers again makes none.
func TestJustAMajority(t *testing.T) {
	b := of(3, 2, 1)
	for n := 1; n <= 5; n++ {
		permute(count(0, n), 0, func(keepers []int) {
			r := begin(t, n, b, change.Swap(nil, []int{5}))
			for i, keeper := range keepers[:majorities[n]] {
				last := i == majorities[n]-1
				if got := r.Promise(keeper, b, api.Register{}); got != last || (r.Stage() == telling) != last {
					t.Fatalf("of %d keepers promise %d: %v, stage %d", n, i+1, got, r.Stage())
				}
				for range 6 {
					if r.Promise(keeper, b, api.Register{}) || (r.Stage() == telling) != last {
						t.Fatalf("of %d keepers one promises again behind %d", n, i+1)
					}
				}
			}
			slices.Reverse(keepers)
			for i, keeper := range keepers[:majorities[n]] {
				last := i == majorities[n]-1
				if got := r.Accepted(keeper, b); got != last || (r.Stage() == done) != last {
					t.Fatalf("of %d keepers acceptance %d: %v, stage %d", n, i+1, got, r.Stage())
				}
				for range 6 {
					if r.Accepted(keeper, b) || (r.Stage() == done) != last {
						t.Fatalf("of %d keepers one accepts again behind %d", n, i+1)
					}
				}
			}
			slices.Reverse(keepers)
		})
	}
}

// permute calls a function with each order of a list.
func permute[T any](list []T, ahead int, call func(list []T)) {
	if ahead == len(list) {
		call(list)
		return
	}
	for i := ahead; i < len(list); i++ {
		list[ahead], list[i] = list[i], list[ahead]
		permute(list, ahead+1, call)
		list[ahead], list[i] = list[i], list[ahead]
	}
}

// P11.1: acceptances while it is asking are nothing: they don't count once it is telling; promises don't count as acceptances.
func TestEarlyAcceptances(t *testing.T) {
	p := both(t, 5, of(3, 2, 1), change.Swap(nil, []int{5}))
	for keeper := range 5 {
		p.accept(t, keeper, p.m.b)
	}
	p.to(t, telling)
	p.accept(t, 3, p.m.b)
	p.accept(t, 4, p.m.b)
	if p.r.Stage() != telling {
		t.Error(p.r.Stage())
	}
	p.accept(t, 0, p.m.b)
	if p.r.Stage() != done {
		t.Error(p.r.Stage())
	}
}

// P11.1: keepers that didn't promise may accept.
func TestOtherKeepersAccept(t *testing.T) {
	b := of(3, 2, 1)
	r := begin(t, 4, b, change.Read())
	if r.Promise(0, b, api.Register{}) || r.Promise(1, b, api.Register{}) || !r.Promise(2, b, api.Register{}) {
		t.Error(r.Stage())
	}
	if r.Accepted(3, b) || r.Accepted(2, b) || !r.Accepted(1, b) {
		t.Error(r.Stage())
	}
}

// P11.1: what a keeper promised first stands, whatever it promises again.
func TestFirstPromiseStands(t *testing.T) {
	p := both(t, 3, of(3, 2, 1), change.Read())
	p.promise(t, 1, p.m.b, held(of(1, 0, 0), 1))
	p.promise(t, 1, p.m.b, held(of(2, 0, 0), 2))
	p.promise(t, 1, p.m.b, api.Register{})
	p.promise(t, 0, p.m.b, api.Register{})
	if !slices.Equal(p.r.Value(), []int{1}) {
		t.Error(p.r.Value())
	}
}

// P11.1: a promise behind a majority changes neither the value nor the stage.
func TestLatePromise(t *testing.T) {
	p := both(t, 3, of(3, 2, 1), change.Read())
	p.promise(t, 0, p.m.b, held(of(1, 0, 0), 1))
	p.promise(t, 1, p.m.b, api.Register{})
	p.promise(t, 2, p.m.b, held(of(2, 0, 0), 2))
	p.promise(t, 1, p.m.b, held(of(2, 0, 0), 2))
	if p.r.Stage() != telling || !slices.Equal(p.r.Value(), []int{1}) {
		t.Error(p.r.Stage(), p.r.Value())
	}
}

// P11.1: a refusal loses the round just where its ballot is above the round's, in its first part that differs.
func TestRefusals(t *testing.T) {
	b := of(3, 2, 1)
	above := []api.Ballot{of(3, 2, 2), of(3, 3, 0), of(3, 3, -1), of(4, 0, 0), of(4, -1, -1), of(3, 2, greatest), of(greatest, greatest, greatest)}
	below := []api.Ballot{b, {}, of(3, 2, 0), of(3, 2, -9), of(3, 1, 9), of(2, 9, 9), of(-4, 9, 9), of(least, least, least)}
	for _, stage := range []int{asking, telling} {
		for keeper := range 5 {
			for _, greater := range above {
				p := both(t, 5, b, change.Swap(nil, []int{5}))
				p.to(t, stage)
				for _, lesser := range below {
					p.refuse(t, keeper, b, lesser)
				}
				if p.r.Stage() != stage || p.r.Met() != of(0, 0, 0) {
					t.Fatal(p.r.Stage(), p.r.Met())
				}
				p.refuse(t, keeper, b, greater)
				if p.r.Stage() != lost || p.r.Met() != greater {
					t.Fatal(p.r.Stage(), p.r.Met())
				}
			}
		}
	}
}

// P11.1: a round that is lost, or done, stays so; the ballot that it met stays, too.
func TestLostAndDoneStay(t *testing.T) {
	for n := 1; n <= 5; n++ {
		for _, from := range []int{asking, telling, done} {
			p := both(t, n, of(3, 2, 1), change.Swap(nil, []int{5}))
			p.to(t, from)
			p.refuse(t, n-1, p.m.b, of(7, 0, 0))
			want := p.r.Stage()
			for keeper := range n {
				p.refuse(t, keeper, p.m.b, of(8+keeper, 0, 0))
				p.promise(t, keeper, p.m.b, held(of(2, 0, 0), 9))
				p.accept(t, keeper, p.m.b)
				p.refuse(t, keeper, p.m.b, of(4, 0, 0))
			}
			if p.r.Stage() != want || from == done && p.r.Met() != of(0, 0, 0) || from != done && p.r.Met() != of(7, 0, 0) {
				t.Errorf("from stage %d: %d, %v", from, p.r.Stage(), p.r.Met())
			}
		}
	}
}

// P11.1: the value is none while it is asking, and stays with a round that is lost while it tells; the result is none but once it is done.
func TestValueByStage(t *testing.T) {
	b := of(3, 2, 1)
	for _, stage := range []int{asking, telling, done, lost} {
		p := both(t, 3, b, change.Swap(nil, []int{5}))
		p.to(t, stage)
		value, _ := p.r.Result()
		if slices.Equal(p.r.Value(), []int{5}) != (stage == telling || stage == done) || slices.Equal(value, []int{5}) != (stage == done) {
			t.Errorf("in stage %d: %v, %v", stage, p.r.Value(), value)
		}
	}
	r := begin(t, 3, b, change.Swap(nil, []int{5}))
	r.Promise(0, b, held(of(1, 0, 0), 8))
	r.Promise(1, b, api.Register{})
	r.Refused(2, b, of(4, 0, 0))
	if value, err := r.Result(); r.Stage() != lost || !slices.Equal(r.Value(), []int{8}) || len(value) != 0 || err != nil {
		t.Error(r.Stage(), r.Value(), value, err)
	}
}

// tells checks which value is told of registers that are promised, by the first keepers on, and that it is the result once it is done.
func tells(t *testing.T, c api.Change, want []int, wantErr error, list ...api.Register) {
	t.Helper()
	b := of(9, 1, 1)
	n := 2*len(list) - 1
	r := begin(t, n, b, c)
	for keeper, x := range list {
		if last := keeper == len(list)-1; r.Promise(keeper, b, x) != last {
			t.Fatalf("promise of %d", keeper)
		}
	}
	if !slices.Equal(r.Value(), want) {
		t.Fatalf("of %v the value %v, want %v", list, r.Value(), want)
	}
	for keeper := range list {
		r.Accepted(keeper, b)
	}
	if got, err := r.Result(); r.Stage() != done || !slices.Equal(got, want) || err != wantErr {
		t.Fatalf("of %v the result %v, %v, want %v, %v", list, got, err, want, wantErr)
	}
}

// P11.1: the value is the change of the newest one: at registers that accepted none, one, and several in each order; what they promised doesn't matter.
func TestValueOfRegisters(t *testing.T) {
	none := api.Register{Promised: of(8, 8, 8)}
	tells(t, change.Read(), nil, nil, none)
	tells(t, change.Read(), nil, nil, none, none, api.Register{})
	tells(t, change.Swap(nil, []int{5}), []int{5}, nil, none, none, api.Register{})
	rising := []api.Register{
		none,
		{Promised: of(7, 0, 0), Accepted: of(0, 0, 1), Value: []int{1}},
		{Promised: of(6, 0, 0), Accepted: of(0, 1, 0), Value: []int{2, 2}},
		{Promised: of(5, 0, 0), Accepted: of(1, 0, 0)},
		{Promised: of(4, 0, 0), Accepted: of(1, 0, 4), Value: count(0, most)},
		{Promised: of(4, 9, 0), Accepted: of(4, 0, 9), Value: []int{least, greatest}},
	}
	for i, a := range rising {
		tells(t, change.Read(), a.Value, nil, a)
		for j, b := range rising[:i+1] {
			for _, c := range rising[:j+1] {
				permute([]api.Register{a, b, c}, 0, func(list []api.Register) {
					tells(t, change.Read(), a.Value, nil, list...)
					tells(t, change.Swap(a.Value, []int{5, 6}), []int{5, 6}, nil, list...)
					tells(t, change.Swap([]int{-4}, []int{5, 6}), a.Value, api.ErrStale, list...)
				})
			}
		}
	}
}

// P11.1: a value beside no accepted ballot, or beside one below it, is none.
func TestValueBesideNoBallot(t *testing.T) {
	for _, b := range []api.Ballot{{}, of(0, 0, -1), of(0, -1, 9), of(-1, 9, 9), of(least, least, least)} {
		x := api.Register{Accepted: b, Value: []int{7}}
		tells(t, change.Read(), nil, nil, x)
		tells(t, change.Read(), nil, nil, x, x, x)
		tells(t, change.Swap(nil, []int{5}), []int{5}, nil, x, api.Register{})
		tells(t, change.Read(), []int{8}, nil, x, held(of(0, 0, 1), 8), x)
	}
}

// P11.1: of equal ballots the first keeper's value, in whatever order the keepers answer.
func TestValueOfEqualBallots(t *testing.T) {
	b := of(9, 1, 1)
	list := []api.Register{held(of(1, 9, 9), 9), held(of(2, 3, 4), 1), held(of(2, 3, 4), 2), held(of(2, 3, 4), 3), held(of(2, 3, 4))}
	permute(count(0, 5), 0, func(keepers []int) {
		p := both(t, 5, b, change.Read())
		for _, keeper := range keepers[:3] {
			p.promise(t, keeper, b, list[keeper])
		}
		first := slices.Min(slices.DeleteFunc(slices.Clone(keepers[:3]), func(k int) bool { return k == 0 }))
		if !slices.Equal(p.r.Value(), list[first].Value) {
			t.Fatalf("in the order %v: %v", keepers[:3], p.r.Value())
		}
	})
}

// P11.1: a swap that is stale tells the value as it is, and its result says so once it is done; at each length of a value.
func TestStaleSwaps(t *testing.T) {
	for n := range most + 1 {
		value := count(100, n)
		x := held(of(1, 1, 1), value...)
		tells(t, change.Swap(value, []int{5}), []int{5}, nil, x, x)
		tells(t, change.Swap(value, value), value, nil, x, x)
		tells(t, change.Swap([]int{-1}, []int{5}), value, api.ErrStale, x, x)
		tells(t, change.Swap([]int{-1}, value), value, api.ErrStale, x, api.Register{})
		if n > 0 {
			tells(t, change.Swap(value[1:], nil), value, api.ErrStale, x, x)
			tells(t, change.Swap(value, nil), value[:n-1], api.ErrStale, held(of(1, 1, 1), value[:n-1]...))
			tells(t, change.Swap(nil, []int{5}), value, api.ErrStale, api.Register{}, x)
		}
	}
}

// P11.1: what a stale swap answered isn't told ahead of its end, nor where it is lost.
func TestStaleOnlyOnceDone(t *testing.T) {
	for _, greater := range []api.Ballot{{}, of(4, 0, 0)} {
		p := both(t, 3, of(3, 2, 1), change.Swap([]int{1}, []int{2}))
		p.to(t, telling)
		if _, err := p.r.Result(); err != nil {
			t.Error(err)
		}
		p.refuse(t, 0, p.m.b, greater)
		p.accept(t, 0, p.m.b)
		p.accept(t, 1, p.m.b)
		if _, err := p.r.Result(); (err == api.ErrStale) != (p.r.Stage() == done) || (p.r.Stage() == done) != (greater.N == 0) {
			t.Error(greater, p.r.Stage(), err)
		}
	}
}

// P11.1: a nil Round.
func TestNilRound(t *testing.T) {
	var r *round.Round
	for range 2 {
		value, err := r.Result()
		if r.Stage() != 0 || r.Ballot() != of(0, 0, 0) || len(r.Value()) != 0 || len(value) != 0 || err != nil || r.Met() != of(0, 0, 0) {
			t.Error("a nil round tells something")
		}
		for _, b := range []api.Ballot{{}, of(1, 0, 0)} {
			if r.Promise(0, b, held(of(1, 0, 0), 1)) || r.Accepted(0, b) || r.Refused(0, b, of(2, 0, 0)) {
				t.Error("a nil round takes an answer")
			}
		}
	}
}

// P11.1: all rows of five calls out of a few, at one to three keepers, against the model.
func TestAllShortRows(t *testing.T) {
	b := of(3, 2, 1)
	const letters = 9
	for n := 1; n <= 3; n++ {
		for code := range letters * letters * letters * letters * letters {
			p := both(t, n, b, change.Swap([]int{1}, []int{5}))
			for range 5 {
				letter := code % letters
				code /= letters
				switch {
				case letter < 3:
					p.promise(t, letter, b, held(of(letter, 0, 0), letter))
				case letter < 6:
					p.accept(t, letter-3, b)
				case letter == 6:
					p.promise(t, 0, of(3, 2, 0), held(of(2, 0, 0), 9))
				case letter == 7:
					p.refuse(t, 1, b, of(3, 2, 2))
				default:
					p.refuse(t, 0, b, of(3, 2, 1))
				}
			}
		}
	}
}

// registers is registers that differ in what matters, some not in form.
func registers() []api.Register {
	return []api.Register{
		{}, {Promised: of(9, 9, 9)}, {Value: []int{7}}, held(of(0, 0, 1), 1), held(of(0, 1, 0)), held(of(1, 0, 0), 2, 3), held(of(1, 0, 0), 4),
		held(of(2, 2, 2), count(0, most)...), held(of(9, 9, 9), 5), held(of(-1, 0, 0), 6), {Promised: of(1, 0, 0), Accepted: of(2, 0, 0), Value: count(0, most+8)},
	}
}

// P11.1: long rows of any calls, at each number of keepers and any changes, against the model.
func TestLongRowsAgainstModel(t *testing.T) {
	list := registers()
	ballots := append(others(), of(3, 2, 1), of(3, 2, 1), of(3, 2, 1), of(3, 2, 1), of(3, 2, 1), of(3, 2, 1))
	for seed := range 6000 {
		s := scramble(seed)
		c := change.Read()
		if x := list[s.next(len(list)-1)]; s.next(3) > 0 {
			c = change.Swap(x.Value, []int{s.next(3)})
		}
		n := 1 + s.next(5)
		p := both(t, n, of(3, 2, 1), c)
		for range 30 {
			keeper := s.next(n+2) - 1
			b := ballots[s.next(len(ballots))]
			switch s.next(8) {
			case 0, 1, 2, 3:
				p.promise(t, keeper, b, list[s.next(len(list))])
			case 4, 5, 6:
				p.accept(t, keeper, b)
			case 7:
				if greater := ballots[s.next(len(ballots))]; s.next(4) == 0 {
					p.refuse(t, keeper, b, greater)
				}
			}
		}
	}
}

// P11.1: rounds beside each other have nothing in common.
func TestRoundsBesideEachOther(t *testing.T) {
	b, c := of(1, 0, 0), change.Swap(nil, []int{5})
	one, two := both(t, 3, b, c), both(t, 3, b, c)
	one.to(t, telling)
	expect(t, two.r, two.m)
	two.to(t, lost)
	expect(t, one.r, one.m)
	one.to(t, done)
	expect(t, two.r, two.m)
}

// roomy is a list within a longer one, whose other numbers are to stay.
func roomy(list []int) (whole, part []int) {
	whole = slices.Concat([]int{-77}, list, []int{-78, -79, -80, -81, -82, -83, -84, -85})
	return whole, whole[1 : 1+len(list)]
}

// scribble changes all numbers of a list, and those of its spare room.
func scribble(list []int) {
	list = list[:cap(list)]
	for i := range list {
		list[i] = -99
	}
}

// untouched makes a call with a list, checks that neither the list nor what is around it is changed, and scribbles over all of it.
func untouched(t *testing.T, name string, list []int, call func(list []int)) {
	t.Helper()
	whole, part := roomy(list)
	was := slices.Clone(whole)
	call(part)
	if !slices.Equal(whole, was) {
		t.Errorf("%s changed what is handed in to %v", name, whole)
	}
	scribble(whole)
}

// answersAlone checks that a round answers some numbers, whatever is written over what it answered.
func answersAlone(t *testing.T, r *round.Round, value, result []int) {
	t.Helper()
	for range 2 {
		one, two := r.Value(), r.Value()
		three, _ := r.Result()
		four, _ := r.Result()
		got, want := [][]int{one, two, three, four}, [][]int{value, value, result, result}
		for i := range got {
			if !slices.Equal(got[i], want[i]) {
				t.Errorf("in stage %d: %v, want %v", r.Stage(), got[i], want[i])
			}
			scribble(got[i])
		}
	}
}

// P11.1, and rule 5: what Begin is given is neither changed nor kept; what the round answers is new memory each time.
func TestBeginKeepsNothing(t *testing.T) {
	b := of(3, 2, 1)
	for _, n := range []int{0, 1, 2, 5, most - 1, most} {
		old, new := count(10, n), count(50, n)
		var r *round.Round
		untouched(t, "Begin", old, func(old []int) {
			untouched(t, "Begin", new, func(new []int) {
				r = begin(t, 2, b, api.Change{Kind: swap, Old: old, New: new})
			})
		})
		answersAlone(t, r, nil, nil)
		r.Promise(0, b, api.Register{})
		r.Promise(1, b, held(of(1, 0, 0), old...))
		answersAlone(t, r, new, nil)
		r.Accepted(0, b)
		r.Accepted(1, b)
		answersAlone(t, r, new, new)
		if _, err := r.Result(); err != nil {
			t.Errorf("of %d numbers: %v", n, err)
		}
		untouched(t, "Begin that is refused", count(10, most+1), func(list []int) {
			expectRefused(t, 2, b, api.Change{Kind: swap, Old: list, New: list})
		})
	}
}

// P11.1, and rule 5: a register that is promised is neither changed nor kept, whether its value is told or another one's, and whether it is taken or not.
func TestPromiseKeepsNothing(t *testing.T) {
	b := of(3, 2, 1)
	for _, n := range []int{0, 1, 2, 5, most, most + 8} {
		list := count(10, n)
		for _, c := range []api.Change{change.Read(), change.Swap([]int{-1}, []int{-2})} {
			r := begin(t, 3, b, c)
			promise := func(keeper, accepted int, b api.Ballot) {
				untouched(t, "Promise", list, func(list []int) { r.Promise(keeper, b, held(of(accepted, 0, 0), list...)) })
			}
			promise(3, 1, b)
			promise(0, 1, of(3, 2, 2))
			promise(2, 2, b)
			promise(2, 2, b)
			promise(0, 1, b)
			answersAlone(t, r, list, nil)
			promise(1, 2, b)
			r.Accepted(0, b)
			r.Accepted(1, b)
			promise(1, 2, b)
			answersAlone(t, r, list, list)
		}
	}
}

// P11.1, and rule 5: two rounds that are given one list share nothing of it.
func TestRoundsShareNoMemory(t *testing.T) {
	b, list := of(3, 2, 1), []int{1, 2, 3}
	var rounds []*round.Round
	for range 2 {
		r := begin(t, 1, b, change.Read())
		r.Promise(0, b, held(of(1, 0, 0), list...))
		r.Accepted(0, b)
		rounds = append(rounds, r)
	}
	scribble(rounds[0].Value())
	answersAlone(t, rounds[0], list, list)
	answersAlone(t, rounds[1], list, list)
}

// The kinds of messages between rounds and registers.
const (
	prepare = iota
	promised
	accept
	accepted
	refused
)

// message is a message on its way to a register, or to a round.
type message struct {
	kind   int
	round  int // by number
	keeper int
	x      api.Register
	value  []int
	other  api.Ballot
}

// world is registers of layer 9, rounds over them, and what is on its way between them.
type world struct {
	registers []api.Register
	rounds    []*round.Round
	changes   []api.Change
	tells     []bool  // by round, whether it came to tell
	told      [][]int // by round, what it tells
	way       []message
}

// start begins a round, and sends what it asks.
func (w *world) start(t *testing.T, b api.Ballot, c api.Change) int {
	t.Helper()
	w.rounds = append(w.rounds, begin(t, len(w.registers), b, c))
	w.changes = append(w.changes, c)
	w.tells, w.told = append(w.tells, false), append(w.told, nil)
	at := len(w.rounds) - 1
	for keeper := range w.registers {
		w.way = append(w.way, message{kind: prepare, round: at, keeper: keeper})
	}
	return at
}

// answer is what a register answers by layer 9: the message, if it is one, and whether it is one.
func (w *world) answer(m message) (message, bool) {
	b, was := w.rounds[m.round].Ballot(), w.registers[m.keeper]
	back := message{kind: promised, round: m.round, keeper: m.keeper}
	next, err := ballot.Prepare(was, b)
	if m.kind == accept {
		back.kind = accepted
		next, err = ballot.Accept(was, b, m.value)
	}
	switch err {
	case nil:
		back.x = next
		w.registers[m.keeper] = next
		return back, true
	case api.ErrStale:
		back.kind, back.other = refused, was.Promised
		return back, true
	}
	return back, false
}

// deliver hands a message over, and sends what comes of it.
func (w *world) deliver(m message) {
	r := w.rounds[m.round]
	b := r.Ballot()
	switch m.kind {
	case prepare, accept:
		if back, ok := w.answer(m); ok {
			w.way = append(w.way, back)
		}
	case promised:
		if r.Promise(m.keeper, b, m.x) {
			w.tells[m.round], w.told[m.round] = true, r.Value()
			for keeper := range w.registers {
				w.way = append(w.way, message{kind: accept, round: m.round, keeper: keeper, value: r.Value()})
			}
		}
	case accepted:
		r.Accepted(m.keeper, b)
	case refused:
		r.Refused(m.keeper, b, m.other)
	}
}

// begins tells whether a value begins with another one.
func begins(value, with []int) bool {
	return len(value) >= len(with) && slices.Equal(value[:len(with)], with)
}

// checkChain checks that each round that told, above one that is done, tells a value that begins with what that one told; the swaps must each put one number more behind.
func (w *world) checkChain(t *testing.T) {
	t.Helper()
	for i, d := range w.rounds {
		if d.Stage() != done {
			continue
		}
		for j, r := range w.rounds {
			if !w.tells[j] || !ballot.Less(d.Ballot(), r.Ballot()) {
				continue
			}
			if !begins(w.told[j], w.told[i]) {
				t.Fatalf("the round of %v is done with %v, that of %v tells %v", d.Ballot(), w.told[i], r.Ballot(), w.told[j])
			}
		}
	}
}

// checkMade checks that each round that told tells its change of none, or of what a round of a lesser ballot tells.
func (w *world) checkMade(t *testing.T) {
	t.Helper()
	for i, r := range w.rounds {
		if !w.tells[i] {
			continue
		}
		from := [][]int{nil}
		for j, other := range w.rounds {
			if w.tells[j] && ballot.Less(other.Ballot(), r.Ballot()) {
				from = append(from, w.told[j])
			}
		}
		made := slices.ContainsFunc(from, func(value []int) bool {
			value, _ = change.Do(w.changes[i], value)
			return slices.Equal(value, w.told[i])
		})
		if !made {
			t.Fatalf("the round of %v tells %v, which %v doesn't make of any of %v", r.Ballot(), w.told[i], w.changes[i], from)
		}
	}
}

// checkOneSwap checks that of swaps of one value at most one is done without ErrStale, and that a done round's result is what it told.
func (w *world) checkOneSwap(t *testing.T) {
	t.Helper()
	for i, r := range w.rounds {
		value, err := r.Result()
		if r.Stage() != done || err != nil || w.changes[i].Kind != swap {
			continue
		}
		if !slices.Equal(value, w.changes[i].New) || !slices.Equal(value, w.told[i]) {
			t.Fatalf("a swap into %v is done with %v", w.changes[i].New, value)
		}
		for j, other := range w.rounds[:i] {
			if _, err := other.Result(); other.Stage() == done && err == nil && w.changes[j].Kind == swap && slices.Equal(w.changes[j].Old, w.changes[i].Old) {
				t.Fatalf("the swaps of %v and %v, both of %v, are done", other.Ballot(), r.Ballot(), w.changes[i].Old)
			}
		}
	}
}

// pick is any message on its way, and whether it comes: now and then one is lost, or comes and stays on its way, to come again.
func (w *world) pick(s *scramble) (message, bool) {
	if len(w.way) == 0 {
		return message{}, false
	}
	i := s.next(len(w.way))
	m := w.way[i]
	isLost, isDoubled := s.next(12) == 0, s.next(6) == 0
	if isLost || !isDoubled {
		w.way = slices.Delete(w.way, i, i+1)
	}
	return m, !isLost
}

// client is a node that makes rounds one behind the other, each from the value that it saw last.
type client struct {
	top   api.Ballot
	value []int
	at    int // its round's number; below 0, if it has none
}

// nextRound begins a client's next round: a read, or a swap that puts a number of its own behind the value it saw last.
func (w *world) nextRound(t *testing.T, s *scramble, node int, c *client) {
	t.Helper()
	c.top = ballot.Next(c.top, node, s.next(2))
	next := change.Read()
	if s.next(4) > 0 {
		next = change.Swap(c.value, append(slices.Clone(c.value), len(w.rounds)+1))
	}
	c.at = w.start(t, c.top, next)
}

// look is what a client sees of its round: its value, and the ballot that refused it; now and then it gives up.
func (w *world) look(s *scramble, c *client) {
	if c.at < 0 {
		return
	}
	r := w.rounds[c.at]
	switch r.Stage() {
	case done:
		c.value, _ = r.Result()
		c.at = -1
	case lost:
		c.top = r.Met()
		c.at = -1
	default:
		if s.next(25) == 0 {
			c.at = -1
		}
	}
}

// run lets some nodes make rounds over n registers, with messages that are lost, doubled and late, and answers how many rounds are done, and how many of these were swaps without ErrStale.
func run(t *testing.T, seed, n, nodes int) (finished, swapped int) {
	t.Helper()
	s := scramble(seed)
	w := &world{registers: make([]api.Register, n)}
	clients := make([]client, nodes)
	for node := range clients {
		clients[node].at = -1
	}
	for range 400 {
		node := s.next(nodes)
		if c := &clients[node]; c.at < 0 && len(w.rounds) < 28 && s.next(5) == 0 {
			w.nextRound(t, &s, node, c)
		}
		if m, ok := w.pick(&s); ok {
			w.deliver(m)
			w.look(&s, &clients[node])
		}
	}
	w.checkChain(t)
	w.checkMade(t)
	w.checkOneSwap(t)
	for i, r := range w.rounds {
		if r.Stage() == done {
			finished++
			if _, err := r.Result(); err == nil && w.changes[i].Kind == swap {
				swapped++
			}
		}
	}
	return finished, swapped
}

// P11.2 and P11.3: rounds of several nodes over one to five registers, with messages that are lost, doubled and late.
func TestChainOverRegisters(t *testing.T) {
	for n := 1; n <= 5; n++ {
		for nodes := 1; nodes <= 4; nodes++ {
			finished, swapped := 0, 0
			for seed := range 400 {
				f, s := run(t, seed*100+n*10+nodes, n, nodes)
				finished, swapped = finished+f, swapped+s
			}
			// A world in which nothing comes to its end would hold any chain.
			if finished < 300 || swapped < 100 {
				t.Errorf("over %d registers by %d nodes %d rounds are done, %d of them swaps", n, nodes, finished, swapped)
			}
		}
	}
}

// P11.3: many rounds swap one old value, each into its own, with reads between them: at most one is done without ErrStale, and each done round behind it has its value.
func TestOneSwapOfOneValue(t *testing.T) {
	for n := 1; n <= 5; n++ {
		ones := 0
		for seed := range 1500 {
			s := scramble(seed*10 + n)
			w := &world{registers: make([]api.Register, n)}
			for i := range 6 {
				c := change.Swap(nil, []int{i})
				if i%3 == 2 {
					c = change.Read()
				}
				w.start(t, of(1+s.next(2), i, 0), c)
			}
			for range 250 {
				if m, ok := w.pick(&s); ok {
					w.deliver(m)
				}
			}
			w.checkChain(t)
			w.checkOneSwap(t)
			ones += w.swapsDone()
		}
		if ones < 300 {
			t.Errorf("over %d registers just %d swaps are done", n, ones)
		}
	}
}

// swapsDone is how many swaps are done without ErrStale.
func (w *world) swapsDone() int {
	n := 0
	for i, r := range w.rounds {
		if _, err := r.Result(); r.Stage() == done && err == nil && w.changes[i].Kind == swap {
			n++
		}
	}
	return n
}

// pairs is each majority of three keepers, in each order.
var pairs = [...][2]int{{0, 1}, {1, 0}, {0, 2}, {2, 0}, {1, 2}, {2, 1}}

// step lets a round ask one of the keepers, or tell it, and hands the answer over at once.
func (w *world) step(at, keeper int) {
	kind := prepare
	switch w.rounds[at].Stage() {
	case telling:
		kind = accept
	case done, lost:
		return
	}
	if back, ok := w.answer(message{kind: kind, round: at, keeper: keeper, value: w.rounds[at].Value()}); ok {
		w.deliver(back)
	}
}

// P11.2 and P11.3: two swaps of one value over three registers, at all ways in which their steps lie between each other, and all majorities that they ask and tell.
func TestAllWaysOfTwoRounds(t *testing.T) {
	ends := map[[2]int]int{}
	for shape := range 1 << 8 {
		if ones(shape) != 4 {
			continue
		}
		for code := range len(pairs) * len(pairs) * len(pairs) * len(pairs) {
			w := &world{registers: make([]api.Register, 3)}
			w.start(t, of(1, 0, 0), change.Swap(nil, []int{1}))
			w.start(t, of(1, 1, 0), change.Swap(nil, []int{2}))
			row := [2][]int{
				slices.Concat(pairs[code%6][:], pairs[code/6%6][:]),
				slices.Concat(pairs[code/36%6][:], pairs[code/216][:]),
			}
			for i := range 8 {
				at := shape >> i & 1
				w.step(at, row[at][0])
				row[at] = row[at][1:]
			}
			w.checkChain(t)
			w.checkOneSwap(t)
			ends[[2]int{w.rounds[0].Stage(), w.rounds[1].Stage()}]++
		}
	}
	for _, end := range [][2]int{{done, done}, {lost, done}} { // the greater ballot is never refused
		if ends[end] == 0 {
			t.Errorf("no way ends in the stages %v: %v", end, ends)
		}
	}
}

// ones is how many bits of a number are set.
func ones(n int) int {
	sum := 0
	for ; n > 0; n >>= 1 {
		sum += n & 1
	}
	return sum
}
