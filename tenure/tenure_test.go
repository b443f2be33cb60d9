package tenure_test

import (
	"math"
	"slices"
	"testing"

	"estuary/api"
	"estuary/change"
	"estuary/tenure"
)

const (
	least    = math.MinInt
	greatest = math.MaxInt
	longest  = 20   // ticks of a lease, as the document writes them
	oldest   = 1000 // ticks at which the age stays
)

// The kinds of changes, by their numbers.
const (
	read = 1
	swap = 2
)

// edges is numbers at which an answer may turn.
var edges = []int{least, least + 1, -1 << 32, -2, -1, 0, 1, 2, 3, 20, 21, 1 << 32, 1<<32 + 1, greatest - 1, greatest}

// scramble is a row of numbers without an order to be seen, the same one for each seed.
type scramble uint64

// next is a number from 0 to n - 1.
func (s *scramble) next(n int) int {
	*s = *s*6364136223846793005 + 1442695040888963407
	return int(uint64(*s)>>33) % n
}

// model is a watch by the chapter's words: all that it was told, from which the rest is worked out.
type model struct {
	node, life, length int
	told               []happening
}

// happening is a value that was seen, or a tick.
type happening struct {
	tick  bool
	value []int
}

// last is the value that was seen last, and whether any was.
func (m *model) last() ([]int, bool) {
	for i := len(m.told) - 1; i >= 0; i-- {
		if !m.told[i].tick {
			return m.told[i].value, true
		}
	}
	return nil, false
}

// age is how many ticks there were since another value, or the first one, was seen.
func (m *model) age() int {
	age, value, seen := 0, []int(nil), false
	for _, h := range m.told {
		if h.tick {
			age++
		} else if !seen || !slices.Equal(value, h.value) {
			age, value, seen = 0, h.value, true
		}
	}
	return min(age, oldest)
}

// isLease tells whether a value is a lease.
func isLease(v []int) bool {
	return len(v) == 4 && v[0] >= 1 && v[1] >= 0 && v[2] >= 0 && v[3] >= 0
}

// leads tells whether the value that was seen last is a lease of the model's node and life.
func (m *model) leads() bool {
	v, _ := m.last()
	return isLease(v) && v[1] == m.node && v[2] == m.life
}

// want is what the model wants.
func (m *model) want() api.Change {
	v, seen := m.last()
	switch {
	case !seen:
		return api.Change{Kind: read}
	case m.leads():
		return api.Change{Kind: swap, Old: v, New: []int{v[0], v[1], v[2], v[3] + 1}}
	case !isLease(v):
		return api.Change{Kind: swap, Old: v, New: []int{1, m.node, m.life, 0}}
	case m.age() >= m.length:
		return api.Change{Kind: swap, Old: v, New: []int{v[0] + 1, m.node, m.life, 0}}
	}
	return api.Change{Kind: read}
}

// pair is a watch and its model, which are told the same.
type pair struct {
	w *tenure.Watch
	m *model
}

// watch is a new watch, which is to be made.
func watch(t *testing.T, node, life, ticks int) *tenure.Watch {
	t.Helper()
	w, err := tenure.New(node, life, ticks)
	if err != nil || w == nil {
		t.Fatalf("New(%d, %d, %d): %v", node, life, ticks, err)
	}
	return w
}

// both is a new watch and its model.
func both(t *testing.T, node, life, ticks int) pair {
	t.Helper()
	p := pair{watch(t, node, life, ticks), &model{node: node, life: life, length: ticks}}
	p.check(t)
	return p
}

// tick lets so many ticks go by, and checks what the watch tells behind each.
func (p pair) tick(t *testing.T, n int) {
	t.Helper()
	for range n {
		p.w.Tick()
		p.m.told = append(p.m.told, happening{tick: true})
		p.check(t)
	}
}

// saw shows a value.
func (p pair) saw(t *testing.T, value ...int) {
	t.Helper()
	p.w.Saw(value)
	p.m.told = append(p.m.told, happening{value: slices.Clone(value)})
	p.check(t)
}

// sameChange tells whether two changes are the same.
func sameChange(a, b api.Change) bool {
	return a.Kind == b.Kind && slices.Equal(a.Old, b.Old) && slices.Equal(a.New, b.New)
}

// check checks what a watch tells, by all its calls, twice, so that none of them changes what another one answers.
func (p pair) check(t *testing.T) {
	t.Helper()
	value, _ := p.m.last()
	var lease api.Lease
	var epoch int
	if isLease(value) {
		lease = api.Lease{Epoch: value[0], Holder: value[1], Life: value[2], Beat: value[3]}
	}
	if p.m.leads() {
		epoch = value[0]
	}
	for range 2 {
		if got := p.w.Want(); !sameChange(got, p.m.want()) {
			t.Fatalf("behind %v it wants %v, want %v", p.m.told, got, p.m.want())
		}
		if got, ok := p.w.Leads(); got != epoch || ok != p.m.leads() {
			t.Fatalf("behind %v it leads %d, %v, want %d, %v", p.m.told, got, ok, epoch, p.m.leads())
		}
		if got, ok := p.w.Lease(); got != lease || ok != isLease(value) {
			t.Fatalf("behind %v the lease %v, %v, want %v, %v", p.m.told, got, ok, lease, isLease(value))
		}
		if got := p.w.Age(); got != p.m.age() {
			t.Fatalf("behind %v the age %d, want %d", p.m.told, got, p.m.age())
		}
	}
}

// expectWant checks what a watch wants.
func expectWant(t *testing.T, w *tenure.Watch, want api.Change) {
	t.Helper()
	if got := w.Want(); !sameChange(got, want) {
		t.Errorf("it wants %v, want %v", got, want)
	}
}

// P13.1: the chapter's example.
func TestExample(t *testing.T) {
	w := watch(t, 2, 0, 3)
	expectWant(t, w, api.Change{Kind: read})
	w.Saw(nil)
	expectWant(t, w, api.Change{Kind: swap, New: []int{1, 2, 0, 0}})
	w.Saw([]int{1, 2, 0, 0})
	if epoch, ok := w.Leads(); epoch != 1 || !ok {
		t.Error(epoch, ok)
	}
	expectWant(t, w, api.Change{Kind: swap, Old: []int{1, 2, 0, 0}, New: []int{1, 2, 0, 1}})

	other := watch(t, 3, 0, 3)
	for range 3 {
		other.Saw([]int{1, 2, 0, 0})
		expectWant(t, other, api.Change{Kind: read})
		other.Tick()
	}
	expectWant(t, other, api.Change{Kind: swap, Old: []int{1, 2, 0, 0}, New: []int{2, 3, 0, 0}})
}

// P13.1: the kinds of changes, the error and the limit have the numbers that the document gives them.
func TestNumbers(t *testing.T) {
	if _, err := tenure.New(-1, 0, 1); err != api.Errno(2) {
		t.Error(err)
	}
	if api.ChRead != read || api.ChSwap != swap || api.MaxLease != longest {
		t.Error(api.ChRead, api.ChSwap, api.MaxLease)
	}
}

// P13.1: Nums and Take there and back, at all parts at the edges; Take at Epoch below 1 and at each other number below 0.
func TestNumsAndTake(t *testing.T) {
	for _, epoch := range edges {
		for _, holder := range edges {
			for _, life := range edges {
				for _, beat := range edges {
					l := api.Lease{Epoch: epoch, Holder: holder, Life: life, Beat: beat}
					value := []int{epoch, holder, life, beat}
					if got := tenure.Nums(l); !slices.Equal(got, value) {
						t.Fatalf("Nums(%v): %v", l, got)
					}
					want := epoch >= 1 && holder >= 0 && life >= 0 && beat >= 0
					if !want {
						l = api.Lease{}
					}
					if got, ok := tenure.Take(value); got != l || ok != want {
						t.Fatalf("Take(%v): %v, %v, want %v, %v", value, got, ok, l, want)
					}
				}
			}
		}
	}
}

// P13.1: Take at any other count of numbers than four.
func TestTakeByCount(t *testing.T) {
	all := slices.Repeat([]int{1}, 40)
	for n := range len(all) {
		got, ok := tenure.Take(all[:n])
		if n == 4 && (!ok || got != api.Lease{Epoch: 1, Holder: 1, Life: 1, Beat: 1}) {
			t.Error(got, ok)
		}
		if n != 4 && (ok || got != api.Lease{}) {
			t.Errorf("of %d numbers %v, %v", n, got, ok)
		}
	}
	for _, v := range [][]int{nil, {}, {0, 1, 1, 1}, {0, 0, 0, 0}, {-1, 1, 1, 1}, {1, -1, 1, 1}, {1, 1, -1, 1}, {1, 1, 1, -1}} {
		if got, ok := tenure.Take(v); ok || got != (api.Lease{}) {
			t.Errorf("Take(%v): %v", v, got)
		}
	}
	if got, ok := tenure.Take([]int{1, 0, 0, 0}); !ok || got != (api.Lease{Epoch: 1}) {
		t.Error(got, ok)
	}
}

// P13.1: New at nodes and lives below 0 and from 0 on, and at lengths from 1 to 20 and beside them.
func TestNew(t *testing.T) {
	for _, node := range edges {
		for _, life := range edges {
			for _, ticks := range slices.Concat(edges, []int{19, -20, 100, 1<<32 + 20, 1<<8 + 3}) {
				if node >= 0 && life >= 0 && ticks >= 1 && ticks <= longest {
					both(t, node, life, ticks)
				} else if w, err := tenure.New(node, life, ticks); w != nil || err != api.ErrForm {
					t.Fatalf("New(%d, %d, %d): %v, %v", node, life, ticks, w, err)
				}
			}
		}
	}
	for ticks := 1; ticks <= longest; ticks++ {
		both(t, 7, 9, ticks)
	}
}

// values is values of all kinds, as a watch of node 5 and life 2 sees them.
func values() [][]int {
	return [][]int{
		nil, {1}, {1, 5, 2}, {1, 5, 2, 0, 0}, {0, 5, 2, 0}, {-1, 5, 2, 0}, {least, 5, 2, 0}, {1, 5, 2, -1}, {1, 5, 2, least}, {1, -5, 2, 0}, {1, 5, -2, 0},
		{1, 5, 2, 0}, {3, 5, 2, 8}, {greatest, 5, 2, 0}, {1, 5, 2, greatest}, {greatest, 5, 2, greatest},
		{1, 5, 1, 0}, {1, 5, 3, 0}, {7, 5, 0, 4}, {7, 5, 2 + 1<<32, 4}, {greatest, 5, 3, greatest},
		{1, 4, 2, 0}, {1, 6, 2, 0}, {1, 2, 5, 0}, {7, 0, 0, 4}, {7, 5 + 1<<32, 2, 4}, {2, 5, 1, 2}, {5, 1, 2, 5}, {greatest, 6, 2, greatest}, {greatest, greatest, greatest, greatest},
		{1, 2, 3, 4, 5, 6, 7}, slices.Repeat([]int{1}, 32), slices.Repeat([]int{1}, 50),
	}
}

// P13.1: each kind of value, seen first and behind each other one, at each age from the first one to beyond the length.
func TestEachValue(t *testing.T) {
	for _, ticks := range []int{1, 2, longest} {
		for _, first := range values() {
			p := both(t, 5, 2, ticks)
			p.saw(t, first...)
			p.tick(t, ticks+1)
		}
	}
	for _, first := range values() {
		for _, second := range values() {
			p := both(t, 5, 2, 2)
			p.tick(t, 3)
			p.saw(t, first...)
			p.tick(t, 1)
			p.saw(t, second...)
			p.tick(t, 1)
			p.saw(t, second...)
			p.tick(t, 2)
			p.saw(t, first...)
		}
	}
}

// P13.1: a watch of node 0 and life 0 doesn't lead where there is no lease, and leads at its own.
func TestNodeZero(t *testing.T) {
	for _, value := range [][]int{nil, {0, 0, 0, 0}, {0, 0, 0}, {1, 0, 0, -1}, {1, 0, 0, 0}, {1, 0, 1, 0}, {1, 1, 0, 0}, {1, 0, 0, 0, 0}} {
		p := both(t, 0, 0, 1)
		p.saw(t, value...)
		p.tick(t, 2)
	}
}

// P13.1: where nothing was seen, it wants to read at each age, and the first value makes the age 0, also where it is none.
func TestNothingSeen(t *testing.T) {
	for _, first := range [][]int{nil, {}, {1, 5, 2, 0}, {1, 6, 2, 0}} {
		for ticks := 1; ticks <= longest; ticks++ {
			p := both(t, 5, 2, ticks)
			p.tick(t, longest+1)
			expectWant(t, p.w, api.Change{Kind: read})
			p.saw(t, first...)
			if p.w.Age() != 0 {
				t.Fatalf("behind the first value %v the age is %d", first, p.w.Age())
			}
		}
	}
}

// P13.1: Saw of the same value leaves the age, of another one makes it 0, however little they differ.
func TestSameAndAnother(t *testing.T) {
	same := []int{3, 6, 1, 4}
	for _, other := range [][]int{nil, {3, 6, 1}, {3, 6, 1, 4, 0}, {4, 6, 1, 4}, {3, 7, 1, 4}, {3, 6, 2, 4}, {3, 6, 1, 5}, {3, 6, 1, 3}, {3, 6, 1, 4 + 1<<32}} {
		p := both(t, 5, 2, 4)
		for age := range 6 {
			p.saw(t, same...)
			p.saw(t, append(make([]int, 0, 9), same...)...)
			if p.w.Age() != age {
				t.Fatalf("behind the same value the age is %d, want %d", p.w.Age(), age)
			}
			p.tick(t, 1)
		}
		p.saw(t, other...)
		if p.w.Age() != 0 {
			t.Errorf("behind %v the age is %d", other, p.w.Age())
		}
	}
	p := both(t, 5, 2, 4)
	p.saw(t)
	p.tick(t, 3)
	p.w.Saw([]int{})
	if p.w.Age() != 3 {
		t.Error("nil and empty are one value", p.w.Age())
	}
}

// P13.1: at each length another one's lease is wanted from the length on, not at one tick less.
func TestJustTheLength(t *testing.T) {
	for ticks := 1; ticks <= longest; ticks++ {
		w := watch(t, 5, 2, ticks)
		w.Saw([]int{8, 6, 0, 3})
		for range ticks - 1 {
			w.Tick()
		}
		expectWant(t, w, api.Change{Kind: read})
		w.Tick()
		want := api.Change{Kind: swap, Old: []int{8, 6, 0, 3}, New: []int{9, 5, 2, 0}}
		expectWant(t, w, want)
		w.Tick()
		expectWant(t, w, want)
	}
}

// P13.1: the age stays at 1000, and what is wanted with it; another value makes it 0 there, too.
func TestOldest(t *testing.T) {
	for _, value := range [][]int{nil, {1, 5, 2, 0}, {1, 6, 2, 0}} {
		w := watch(t, 5, 2, longest)
		w.Saw(value)
		for age := 1; age <= 2*oldest+7; age++ {
			w.Tick()
			if w.Age() != min(age, oldest) {
				t.Fatalf("behind %d ticks the age %d", age, w.Age())
			}
		}
		before := w.Want()
		w.Tick()
		w.Saw(value)
		expectWant(t, w, before)
		if w.Age() != oldest {
			t.Error(w.Age())
		}
		w.Saw([]int{2, 6, 2, 0})
		if w.Age() != 0 {
			t.Error(w.Age())
		}
	}
	w := watch(t, 5, 2, 1)
	for range oldest + 5 {
		w.Tick()
	}
	if w.Age() != oldest {
		t.Error(w.Age())
	}
	expectWant(t, w, api.Change{Kind: read})
}

// P13.1: behind the greatest epoch and beat come the least numbers, which make no lease.
func TestGreatestNumbers(t *testing.T) {
	p := both(t, 5, 2, 1)
	p.saw(t, greatest, 5, 2, greatest)
	want := []int{greatest, 5, 2, least}
	expectWant(t, p.w, api.Change{Kind: swap, Old: []int{greatest, 5, 2, greatest}, New: want})
	p.saw(t, want...)
	expectWant(t, p.w, api.Change{Kind: swap, Old: want, New: []int{1, 5, 2, 0}})

	p.saw(t, greatest, 6, 0, 0)
	p.tick(t, 1)
	want = []int{least, 5, 2, 0}
	expectWant(t, p.w, api.Change{Kind: swap, Old: []int{greatest, 6, 0, 0}, New: want})
	p.saw(t, want...)
	expectWant(t, p.w, api.Change{Kind: swap, Old: want, New: []int{1, 5, 2, 0}})
}

// P13.1: a nil watch wants to read; nothing, 0 and false else, whatever it is told.
func TestNilWatch(t *testing.T) {
	var w *tenure.Watch
	for _, value := range slices.Concat([][]int{{1, 0, 0, 0}}, values()) {
		w.Saw(value)
		w.Tick()
		expectWant(t, w, api.Change{Kind: read})
		if epoch, ok := w.Leads(); epoch != 0 || ok {
			t.Error(epoch, ok)
		}
		if l, ok := w.Lease(); l != (api.Lease{}) || ok {
			t.Error(l, ok)
		}
		if w.Age() != 0 {
			t.Error(w.Age())
		}
	}
}

// P13.1: all rows of up to six ticks and values, at short lengths.
func TestAllShortRows(t *testing.T) {
	steps := [][]int{{1, 5, 2, 0}, {1, 5, 2, 1}, {1, 6, 2, 0}, {1, 5, 3, 0}, nil}
	rows := 1
	for long := range 7 {
		for row := range 3 * rows {
			p := pair{watch(t, 5, 2, 1+row%3), &model{node: 5, life: 2, length: 1 + row%3}}
			rest := row / 3
			for range long {
				if i := rest % (len(steps) + 1); i < len(steps) {
					p.w.Saw(steps[i])
					p.m.told = append(p.m.told, happening{value: steps[i]})
				} else {
					p.w.Tick()
					p.m.told = append(p.m.told, happening{tick: true})
				}
				rest /= len(steps) + 1
			}
			p.check(t)
		}
		rows *= len(steps) + 1
	}
}

// P13.1: long rows of calls without an order.
func TestLongRows(t *testing.T) {
	list := values()
	for seed := range 60 {
		s := scramble(seed)
		p := both(t, 5, 2, 1+s.next(longest))
		for range 150 {
			switch s.next(4) {
			case 0:
				p.saw(t, list[s.next(len(list))]...)
			case 1:
				if c := p.w.Want(); c.Kind == swap {
					p.saw(t, c.New...)
				}
			default:
				p.tick(t, 1)
			}
		}
	}
}

// roomy is numbers with spare room behind them, and the whole of their memory.
func roomy(nums ...int) (value, whole []int) {
	whole = append(append(make([]int, 0, len(nums)+5), nums...), 91, 92, 93, 94, 95)
	return whole[:len(nums)], whole
}

// scribble writes over a list and its spare room.
func scribble(list []int) {
	for i := range list[:cap(list)] {
		list[:cap(list)][i] = -77
	}
}

// P13.1: what is handed in is neither changed nor kept, its spare room included.
func TestHandedIn(t *testing.T) {
	for _, nums := range [][]int{nil, {4}, {1, 5, 2, 0}, {1, 6, 2, 0}, {1, 5, 2, 0, 0}} {
		value, whole := roomy(nums...)
		before := slices.Clone(whole)
		tenure.Take(value)
		p := both(t, 5, 2, 1)
		p.saw(t, value...)
		p.w.Saw(value)
		p.tick(t, 1)
		if !slices.Equal(whole, before) {
			t.Fatalf("%v became %v", before, whole)
		}
		scribble(value)
		p.check(t)
	}
}

// P13.1: answers share no memory with the watch, with each other or with what was handed in.
func TestAnswersAreNew(t *testing.T) {
	for _, nums := range [][]int{nil, {4}, {1, 5, 2, 0}, {1, 6, 2, 0}, {1, 5, 2, 0, 0}} {
		value, whole := roomy(nums...)
		before := slices.Clone(whole)
		p := both(t, 5, 2, 1)
		p.w.Saw(value)
		p.m.told = append(p.m.told, happening{value: slices.Clone(nums)})
		p.tick(t, 1)
		first, second := p.w.Want(), p.w.Want()
		scribble(first.Old)
		if !slices.Equal(first.New, second.New) {
			t.Error("Old and New share memory", first)
		}
		scribble(first.New)
		if !sameChange(second, p.m.want()) || !slices.Equal(whole, before) {
			t.Error("an answer shares memory", second, whole)
		}
		p.check(t)
	}
	l := api.Lease{Epoch: 1, Holder: 2, Life: 3, Beat: 4}
	a := tenure.Nums(l)
	scribble(a)
	if b := tenure.Nums(l); !slices.Equal(b, []int{1, 2, 3, 4}) {
		t.Error(b)
	}
}

// P13.1: two watches hold nothing in common.
func TestTwoWatches(t *testing.T) {
	a, b := both(t, 5, 2, 2), both(t, 5, 2, 3)
	a.saw(t, 1, 6, 0, 0)
	b.check(t)
	b.saw(t, 2, 7, 0, 0)
	a.tick(t, 2)
	b.check(t)
	b.saw(t)
	a.check(t)
}

// register is a value that is changed by what watches want alone, with all the leases that it was.
type register struct {
	value  []int
	leases []api.Lease
}

// do does a change on the value, if it was made from it, and checks that the lease behind it follows the one ahead of it.
func (r *register) do(t *testing.T, c api.Change) {
	t.Helper()
	value, err := change.Do(c, r.value)
	if err != nil && err != api.ErrStale {
		t.Fatalf("%v on %v: %v", c, r.value, err)
	}
	if change.Same(value, r.value) {
		return
	}
	var before api.Lease
	if isLease(r.value) {
		before = api.Lease{Epoch: r.value[0], Holder: r.value[1], Life: r.value[2], Beat: r.value[3]}
	}
	if !isLease(value) {
		t.Fatalf("%v became %v, which is no lease", r.value, value)
	}
	l := api.Lease{Epoch: value[0], Holder: value[1], Life: value[2], Beat: value[3]}
	renewed, next := before, api.Lease{Epoch: before.Epoch + 1, Holder: l.Holder, Life: l.Life}
	renewed.Beat++
	if l != next && (l != renewed || before.Epoch == 0) {
		t.Fatalf("%v became %v", r.value, value)
	}
	if l == next && l.Holder == before.Holder && l.Life == before.Life && before.Epoch > 0 {
		t.Fatalf("%v became %v, of the same holder", r.value, value)
	}
	r.value, r.leases = value, append(r.leases, l)
}

// expectOneHolder checks that each epoch has one node and life, and that epochs rise by 1.
func (r *register) expectOneHolder(t *testing.T) {
	t.Helper()
	type who struct{ node, life int }
	holders := map[int]who{}
	for i, l := range r.leases {
		h, ok := holders[l.Epoch]
		if ok && h != (who{l.Holder, l.Life}) {
			t.Fatalf("epoch %d has %v and %v", l.Epoch, h, l)
		}
		holders[l.Epoch] = who{l.Holder, l.Life}
		if i > 0 && l.Epoch != r.leases[i-1].Epoch && l.Epoch != r.leases[i-1].Epoch+1 {
			t.Fatalf("behind %v comes %v", r.leases[i-1], l)
		}
	}
}

// P13.2: several watches over one value, which see it late, whose changes come late, and whose nodes begin new lives.
func TestEpochsRise(t *testing.T) {
	epochs := 0
	for seed := range 300 {
		s := scramble(seed)
		var r register
		if s.next(3) == 0 {
			r.value = [][]int{{9}, {4, 9, 9, 9}, {0, 0, 0, 0}}[s.next(3)]
		}
		n := 2 + s.next(3)
		lives, watches := make([]int, n), make([]*tenure.Watch, n)
		for i := range watches {
			watches[i] = watch(t, i, 0, 1+s.next(4))
		}
		late := []api.Change{}
		for range 400 {
			i := s.next(n)
			switch s.next(12) {
			case 0, 1, 2:
				watches[i].Tick()
			case 3, 4:
				watches[i].Saw(r.value)
			case 5, 6:
				late = append(late, watches[i].Want())
			case 7, 8, 9:
				if len(late) > 0 {
					k := s.next(len(late))
					r.do(t, late[k])
					if s.next(2) == 0 {
						late = slices.Delete(late, k, k+1)
					}
				}
			case 10:
				r.do(t, watches[i].Want())
				watches[i].Saw(r.value)
			default:
				if s.next(5) == 0 {
					lives[i]++
					watches[i] = watch(t, i, lives[i], 1+s.next(4))
				}
			}
		}
		r.expectOneHolder(t)
		if k := len(r.leases); k > 0 {
			epochs += r.leases[k-1].Epoch
		}
	}
	if epochs < 1000 {
		t.Error("the leases hardly ever changed hands", epochs)
	}
}

// P13.2: of watches that want the same value at the same time one alone gets it, and the others see whose it is.
func TestOneOfMany(t *testing.T) {
	var r register
	watches := []*tenure.Watch{}
	for node := range 5 {
		watches = append(watches, watch(t, node, 3, 2))
	}
	for turn := range 10 {
		for _, w := range watches {
			w.Saw(r.value)
			w.Tick()
			w.Tick()
		}
		wants := []api.Change{}
		for i := range watches {
			wants = append(wants, watches[(i+turn)%5].Want())
		}
		for _, c := range wants {
			r.do(t, c)
		}
		leaders := 0
		for _, w := range watches {
			w.Saw(r.value)
			if _, ok := w.Leads(); ok {
				leaders++
			}
		}
		if leaders != 1 {
			t.Fatalf("at %v %d watches lead", r.value, leaders)
		}
	}
	r.expectOneHolder(t)
	if last := r.leases[len(r.leases)-1]; last.Epoch < 2 {
		t.Error(last)
	}
}

// P13.3: another one's lease that is seen renewed within the length isn't wanted, and is at the first length without.
func TestRenewedWithinTheLength(t *testing.T) {
	for ticks := 1; ticks <= longest; ticks++ {
		for _, other := range []api.Lease{{Epoch: 1}, {Epoch: 4, Holder: 6, Life: 2}, {Epoch: 4, Holder: 5, Life: 1}} {
			w, l := watch(t, 5, 2, ticks), other
			for range 50 {
				w.Saw(tenure.Nums(l))
				for range ticks - 1 {
					expectWant(t, w, api.Change{Kind: read})
					w.Tick()
				}
				expectWant(t, w, api.Change{Kind: read})
				l.Beat++
			}
			w.Tick()
			if c := w.Want(); c.Kind != swap {
				t.Errorf("length %d: it never wants the lease", ticks)
			}
		}
	}
}

// P13.3: while a leader renews as often as all see its lease, nobody else ever leads.
func TestLeaderStays(t *testing.T) {
	for ticks := 2; ticks <= longest; ticks++ {
		var r register
		leader := watch(t, 1, 0, ticks)
		others := []*tenure.Watch{watch(t, 0, 0, ticks), watch(t, 1, 1, ticks), watch(t, 2, 0, ticks)}
		leader.Saw(r.value)
		r.do(t, leader.Want())
		leader.Saw(r.value)
		for turn := range 30 * ticks {
			if turn%(ticks-1) == 0 {
				r.do(t, leader.Want())
				leader.Saw(r.value)
			}
			for _, w := range others {
				w.Saw(r.value)
				r.do(t, w.Want())
				w.Tick()
			}
			leader.Tick()
		}
		if epoch, ok := leader.Leads(); epoch != 1 || !ok || r.leases[len(r.leases)-1].Epoch != 1 {
			t.Errorf("length %d: %v", ticks, r.value)
		}
	}
}
