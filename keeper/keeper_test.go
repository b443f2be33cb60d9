package keeper_test

import (
	"bytes"
	"math"
	"slices"
	"testing"

	"estuary/api"
	"estuary/ballot"
	"estuary/diary"
	"estuary/frame"
	"estuary/keeper"
	"estuary/note"
	"estuary/tape"
)

// As the document writes them.
const (
	least    = math.MinInt
	greatest = math.MaxInt
	keys     = 100     // from 0 on
	most     = 32      // numbers of a value
	enough   = 200     // with more rows than these a diary is rewritten
	room     = 1 << 20 // bytes of a tape
)

// The kinds of notes, by their numbers.
const (
	prepare = 1
	promise = 2
	accept  = 3
	done    = 4
	no      = 5
)

// Who asks, and who is asked.
const (
	asker = 5
	self  = 3
)

// of is the ballot with these parts.
func of(n, node, life int) api.Ballot { return api.Ballot{N: n, Node: node, Life: life} }

// held is a register that accepted a value in a ballot.
func held(b api.Ballot, value ...int) api.Register {
	return api.Register{Promised: b, Accepted: b, Value: value}
}

// count is so many numbers, which differ, from a first one on.
func count(first, n int) []int {
	list := make([]int, n)
	for i := range list {
		list[i] = first + i
	}
	return list
}

// scramble is a row of numbers without an order to be seen, the same one for each seed.
type scramble uint64

// next is a number from 0 to n - 1.
func (s *scramble) next(n int) int {
	*s = *s*6364136223846793005 + 1442695040888963407
	return int(uint64(*s)>>33) % n
}

// ask is a note that asks.
func ask(kind, key int, b api.Ballot, value ...int) api.Note {
	return api.Note{Kind: kind, From: asker, To: self, Nums: append([]int{key, b.N, b.Node, b.Life}, value...)}
}

// told is the answer to a note that asks.
func told(kind, key int, b api.Ballot, more ...int) api.Note {
	return api.Note{Kind: kind, From: self, To: asker, Nums: append([]int{key, b.N, b.Node, b.Life}, more...)}
}

// spelled is numbers as bytes, by chapter 4's words.
func spelled(nums ...int) []byte {
	var all []byte
	for _, n := range nums {
		turned := uint64(n) << 1
		if n < 0 {
			turned = ^turned
		}
		var one []byte
		for ; turned > 0; turned >>= 8 {
			one = append(one, byte(turned))
		}
		all = append(append(all, byte(len(one))), one...)
	}
	return all
}

// row is the row of a key and a register, by the chapter's words.
func row(key int, r api.Register) []byte {
	head := []int{key, r.Promised.N, r.Promised.Node, r.Promised.Life, r.Accepted.N, r.Accepted.Node, r.Accepted.Life}
	return spelled(append(head, r.Value...)...)
}

// same tells whether two registers are the same.
func same(a, b api.Register) bool {
	return a.Promised == b.Promised && a.Accepted == b.Accepted && slices.Equal(a.Value, b.Value)
}

// below tells whether a ballot is below another one.
func below(a, b api.Ballot) bool {
	return slices.Compare([]int{a.N, a.Node, a.Life}, []int{b.N, b.Node, b.Life}) < 0
}

// whole tells whether no part of a ballot is below 0.
func whole(b api.Ballot) bool { return min(b.N, b.Node, b.Life) >= 0 }

// inForm tells whether a register is in form, by chapter 9's words.
func inForm(r api.Register) bool {
	if below(r.Promised, r.Accepted) || !whole(r.Promised) || !whole(r.Accepted) || len(r.Value) > most {
		return false
	}
	return r.Accepted != of(0, 0, 0) || len(r.Value) == 0
}

// model is a keeper by the chapter's words, on a diary of its own.
type model struct {
	node  int
	diary *diary.Diary
	held  map[int]api.Register
}

func openModel(node int, x *tape.Tape) (*model, error) {
	if node < 0 || node > 999 {
		return nil, api.ErrForm
	}
	d, rows, err := diary.Open(x)
	if err != nil {
		return nil, err
	}
	m := &model{node: node, diary: d, held: map[int]api.Register{}}
	for _, b := range rows {
		nums, err := frame.Nums(b, greatest)
		if err != nil || len(nums) < 7 || nums[0] < 0 || nums[0] > 99 {
			return nil, api.ErrForm
		}
		r := api.Register{Promised: of(nums[1], nums[2], nums[3]), Accepted: of(nums[4], nums[5], nums[6]), Value: nums[7:]}
		if !inForm(r) {
			return nil, api.ErrForm
		}
		m.held[nums[0]] = r
	}
	return m, nil
}

// isQuestion tells whether a note is one of the two that have answers, in form.
func isQuestion(n api.Note) bool {
	if min(n.From, n.To) < 0 || max(n.From, n.To) > 999 || len(n.Ops) > 0 || len(n.Entries) > 0 {
		return false
	}
	return n.Kind == prepare && len(n.Nums) == 4 || n.Kind == accept && len(n.Nums) >= 4 && len(n.Nums) <= 4+most
}

// with is a register with what a question asks of it, and whether it is stale.
func with(r api.Register, n api.Note) (next api.Register, stale bool) {
	b := of(n.Nums[1], n.Nums[2], n.Nums[3])
	if below(b, r.Promised) || n.Kind == prepare && b == r.Promised {
		return r, true
	}
	if n.Kind == prepare {
		return api.Register{Promised: b, Accepted: r.Accepted, Value: r.Value}, false
	}
	return held(b, slices.Clone(n.Nums[4:])...), false
}

func (m *model) handle(n api.Note) []api.Note {
	if m == nil || n.To != m.node || !isQuestion(n) {
		return nil
	}
	key, b := n.Nums[0], of(n.Nums[1], n.Nums[2], n.Nums[3])
	if key < 0 || key > 99 || !whole(b) || b == of(0, 0, 0) {
		return nil
	}
	back := api.Note{From: m.node, To: n.From, Nums: slices.Clone(n.Nums[:4])}
	r, stale := with(m.held[key], n)
	switch {
	case stale:
		back.Kind = no
		back.Nums = append(back.Nums, r.Promised.N, r.Promised.Node, r.Promised.Life)
	case m.add(key, r) != nil:
		return nil
	case n.Kind == prepare:
		back.Kind = promise
		back.Nums = append(append(back.Nums, r.Accepted.N, r.Accepted.Node, r.Accepted.Life), r.Value...)
	default:
		back.Kind = done
	}
	return []api.Note{back}
}

func (m *model) add(key int, r api.Register) error {
	if m.diary.Len() > enough {
		var rows [][]byte
		for i := range keys {
			if old := m.held[i]; !same(old, api.Register{}) {
				rows = append(rows, row(i, old))
			}
		}
		if err := m.diary.Rewrite(rows...); err != nil {
			return err
		}
	}
	err := m.diary.Add(row(key, r))
	if err == nil {
		m.held[key] = r
	}
	return err
}

// pair is a keeper and its model, each on a tape of its own, to which the same happens.
type pair struct {
	x, y *tape.Tape
	k    *keeper.Keeper
	m    *model
}

// each does something to both tapes.
func (p *pair) each(do func(x *tape.Tape)) {
	do(p.x)
	do(p.y)
}

// open opens both, and checks what is answered.
func (p *pair) open(t *testing.T, node int) error {
	t.Helper()
	var err, want error
	p.k, err = keeper.Open(node, p.x)
	p.m, want = openModel(node, p.y)
	if err != want || (p.k == nil) != (err != nil) {
		t.Fatalf("Open(%d): %v, %v, want the error %v", node, p.k, err, want)
	}
	p.expect(t)
	return err
}

// handle hands a note to both, and checks what is answered.
func (p *pair) handle(t *testing.T, n api.Note) []api.Note {
	t.Helper()
	got, want := p.k.Handle(n), p.m.handle(n)
	if !slices.EqualFunc(got, want, note.Same) {
		t.Fatalf("Handle(%v): %v, want %v", n, got, want)
	}
	p.expect(t)
	return got
}

// expect checks all that a keeper tells of itself, and its tape.
func (p *pair) expect(t *testing.T) {
	t.Helper()
	rows := 0
	var registers map[int]api.Register
	if p.m != nil {
		rows, registers = p.m.diary.Len(), p.m.held
	}
	if p.k.Rows() != rows {
		t.Fatalf("%d rows, want %d", p.k.Rows(), rows)
	}
	for key := -2; key < keys+2; key++ {
		if got, want := p.k.Register(key), registers[key]; !same(got, want) {
			t.Fatalf("the register of key %d: %v, want %v", key, got, want)
		}
	}
	if !bytes.Equal(p.x.Read(), p.y.Read()) || p.x.Sure() != p.y.Sure() || p.x.Steps() != p.y.Steps() || p.x.Down() != p.y.Down() {
		t.Fatalf("a tape of %d bytes, %d sure, %d steps, down %v; want %d, %d, %d, %v (or other bytes)",
			len(p.x.Read()), p.x.Sure(), p.x.Steps(), p.x.Down(), len(p.y.Read()), p.y.Sure(), p.y.Steps(), p.y.Down())
	}
}

// laid is a tape with rows, all sure.
func laid(t *testing.T, rows ...[]byte) *tape.Tape {
	t.Helper()
	x := tape.New()
	d, _, err := diary.Open(x)
	if err == nil {
		err = d.Rewrite(rows...)
	}
	if err != nil {
		t.Fatal(err)
	}
	return x
}

// both is a pair on tapes with rows, which is to open.
func both(t *testing.T, rows ...[]byte) *pair {
	t.Helper()
	p := &pair{x: laid(t, rows...), y: laid(t, rows...)}
	if err := p.open(t, self); err != nil {
		t.Fatal(err)
	}
	return p
}

// many is n rows of keys from a first one on, one behind the other and from the first one again, with rising ballots.
func many(n, first, span int) [][]byte {
	rows := make([][]byte, n)
	for i := range rows {
		rows[i] = row(first+i%span, held(of(1+i, 0, 7), i, -i))
	}
	return rows
}

// P12.1: the chapter's example.
func TestExample(t *testing.T) {
	k, err := keeper.Open(self, tape.New())
	if err != nil {
		t.Fatal(err)
	}
	for _, c := range []struct{ ask, want api.Note }{
		{ask(prepare, 0, of(1, 5, 0)), told(promise, 0, of(1, 5, 0), 0, 0, 0)},
		{ask(accept, 0, of(1, 5, 0), 7), told(done, 0, of(1, 5, 0))},
		{ask(prepare, 0, of(1, 4, 0)), told(no, 0, of(1, 4, 0), 1, 5, 0)},
	} {
		if got := k.Handle(c.ask); len(got) != 1 || !note.Same(got[0], c.want) {
			t.Errorf("Handle(%v): %v, want %v", c.ask, got, c.want)
		}
	}
	if got := k.Register(0); !same(got, held(of(1, 5, 0), 7)) || k.Rows() != 2 {
		t.Error(got, k.Rows())
	}
}

// P12.1: the errors have the numbers that the document gives them.
func TestNumbers(t *testing.T) {
	if _, err := keeper.Open(-1, tape.New()); err != api.Errno(2) {
		t.Error(err)
	}
	if _, err := keeper.Open(0, nil); err != api.Errno(5) {
		t.Error(err)
	}
	x := torn(t, 1)
	x.Fail(0)
	if _, err := keeper.Open(0, x); err != api.Errno(6) {
		t.Error(err)
	}
}

// torn is a tape with a row of key 7, and the first bytes of another row's frame behind it.
func torn(t *testing.T, keep int) *tape.Tape {
	t.Helper()
	x := laid(t, row(7, held(of(1, 2, 3), 4)))
	framed, err := frame.Wrap(row(8, held(of(5, 6, 7), 8)))
	if err != nil || keep >= len(framed) {
		t.Fatal(err, keep)
	}
	if err := x.Append(framed[:keep]); err != nil {
		t.Fatal(err)
	}
	return x
}

// P12.1: Open at the numbers of nodes, whose notes are answered then, and whose answers come from it.
func TestOpenByNode(t *testing.T) {
	for _, node := range []int{0, 1, 2, 500, 998, 999} {
		p := &pair{x: tape.New(), y: tape.New()}
		if err := p.open(t, node); err != nil {
			t.Fatalf("Open(%d): %v", node, err)
		}
		n := ask(prepare, 9, of(1, 0, 0))
		n.To = node
		if got := p.handle(t, n); len(got) != 1 || got[0].From != node || got[0].To != asker {
			t.Errorf("keeper %d answers %v", node, got)
		}
	}
	for _, node := range []int{-1, 1000, 1001, -2, -999, -1000, 1 << 32, 1<<32 + 5, least, least + 5, greatest} {
		p := &pair{x: tape.New(), y: tape.New()}
		if err := p.open(t, node); err != api.ErrForm {
			t.Errorf("Open(%d): %v", node, err)
		}
	}
}

// P12.1: a wrong node is told ahead of what is wrong with the tape, which isn't touched then.
func TestOpenTellsTheNodeFirst(t *testing.T) {
	for _, node := range []int{-1, 1000} {
		if k, err := keeper.Open(node, nil); k != nil || err != api.ErrForm {
			t.Errorf("Open(%d, nil): %v, %v", node, k, err)
		}
		p := &pair{x: torn(t, 9), y: torn(t, 9)}
		for _, do := range []func(x *tape.Tape){
			func(x *tape.Tape) {},
			func(x *tape.Tape) { x.Fail(0) },
			func(x *tape.Tape) { x.Arm(0) },
			func(x *tape.Tape) { x.Sync() },
		} {
			p.each(do)
			if err := p.open(t, node); err != api.ErrForm {
				t.Errorf("Open(%d): %v", node, err)
			}
		}
		if !p.x.Down() {
			t.Error("the power isn't gone")
		}
	}
}

// P12.1: Open of a nil tape, of one whose power is gone, of a new one and of torn ones.
func TestOpenByTape(t *testing.T) {
	if k, err := keeper.Open(self, nil); k != nil || err != api.ErrDown {
		t.Errorf("of nil: %v, %v", k, err)
	}
	p := both(t)
	p.each(func(x *tape.Tape) { x.Arm(0); x.Sync() })
	if err := p.open(t, self); err != api.ErrDown {
		t.Errorf("of one that is down: %v", err)
	}
	for keep := range 10 {
		p = &pair{x: torn(t, keep), y: torn(t, keep)}
		if err := p.open(t, self); err != nil || p.k.Rows() != 1 || !same(p.k.Register(7), held(of(1, 2, 3), 4)) || !same(p.k.Register(8), api.Register{}) {
			t.Errorf("of %d bytes more: %v, %d rows", keep, err, p.k.Rows())
		}
		p.handle(t, ask(prepare, 8, of(1, 0, 0)))
		if err := p.open(t, self); err != nil || p.k.Rows() != 2 {
			t.Errorf("behind a row more: %v, %d rows", err, p.k.Rows())
		}
	}
}

// P12.1: where the tape is torn and refuses, or its power goes, Open answers that; it is opened later.
func TestOpenWhereTheTapeRefuses(t *testing.T) {
	p := &pair{x: torn(t, 9), y: torn(t, 9)}
	p.each(func(x *tape.Tape) { x.Fail(0) })
	if err := p.open(t, self); err != api.ErrDisk {
		t.Error(err)
	}
	p.each(func(x *tape.Tape) { x.Arm(0) })
	for range 2 {
		if err := p.open(t, self); err != api.ErrDown {
			t.Error(err)
		}
	}
	p.each(func(x *tape.Tape) { x.Crash(greatest) })
	if err := p.open(t, self); err != nil || p.k.Rows() != 1 {
		t.Error(err)
	}
	// A tape that isn't torn isn't written at all.
	p.each(func(x *tape.Tape) { x.Arm(0); x.Fail(0) })
	if err := p.open(t, self); err != nil || p.k.Rows() != 1 {
		t.Error(err)
	}
}

// P12.1: rows that are a keeper's, at the edges of keys, ballots and values: the last one of a key tells its register.
func TestOpenTakesRows(t *testing.T) {
	registers := []api.Register{
		{},
		{Promised: of(0, 0, 1)},
		{Promised: of(greatest, greatest, greatest)},
		held(of(0, 0, 1)),
		held(of(0, 1, 0), 0),
		held(of(2, 0, 0), count(least, most)...),
		held(of(greatest, greatest, greatest), count(greatest-most+1, most)...),
		{Promised: of(3, 0, 0), Accepted: of(2, greatest, 9), Value: []int{5}},
		{Promised: of(3, 1, 0), Accepted: of(3, 0, 9)},
		{Promised: of(3, 1, 9), Accepted: of(3, 1, 8), Value: []int{-5, 6}},
	}
	for _, key := range []int{0, 1, 50, 98, 99} {
		for _, a := range registers {
			p := both(t, row(key, a))
			if !same(p.k.Register(key), a) || p.k.Rows() != 1 {
				t.Errorf("key %d of %v: %v, %d rows", key, a, p.k.Register(key), p.k.Rows())
			}
			for _, b := range registers {
				p = both(t, row(key, a), row(10, held(of(1, 1, 1), 1)), row(key, b))
				if !same(p.k.Register(key), b) || !same(p.k.Register(10), held(of(1, 1, 1), 1)) || p.k.Rows() != 3 {
					t.Errorf("key %d of %v and %v: %v", key, a, b, p.k.Register(key))
				}
			}
		}
	}
}

// wrongRows is rows that are none of a keeper's.
func wrongRows() [][]byte {
	good := held(of(2, 1, 0), 5)
	rows := [][]byte{
		nil,
		spelled(0),
		{9},
		{2, 1},
		{1, 0, 0, 0, 0, 0, 0, 0},
		append(row(0, good), 1),
		append(row(0, good), 9),
		append([]byte{2, 2, 0}, row(0, good)[1:]...),
		row(0, held(of(2, 1, 0), count(0, most+1)...)),
		row(0, held(of(2, 1, 0), count(0, 2000)...)),
		row(0, api.Register{Promised: of(1, 0, 0), Value: []int{0}}),
		row(0, api.Register{Value: []int{1}}),
		row(0, api.Register{Accepted: of(0, 0, 1)}),
		row(0, api.Register{Promised: of(1, 2, 3), Accepted: of(1, 2, 4)}),
		row(0, api.Register{Promised: of(1, 2, 3), Accepted: of(1, 3, 0)}),
		row(0, api.Register{Promised: of(1, 2, 3), Accepted: of(2, 0, 0)}),
	}
	for _, key := range []int{-1, 100, 101, -100, 256, 1 << 32, 1<<32 + 1, least, greatest} {
		rows = append(rows, row(key, good), row(key, api.Register{}))
	}
	for at := 1; at <= 6; at++ {
		nums := []int{0, 9, 9, 9, 1, 1, 1}
		nums[at] = -1
		rows = append(rows, spelled(nums...))
		rows = append(rows, spelled(nums[:at]...))
	}
	return rows
}

// P12.1: rows that are none of a keeper's, alone, ahead of others, between them and behind them: ErrForm.
func TestOpenRefusesRows(t *testing.T) {
	good := func(key int) []byte { return row(key, held(of(2, 1, 0), 5)) }
	for i, bad := range wrongRows() {
		for _, rows := range [][][]byte{{bad}, {bad, good(0)}, {good(0), bad}, {good(0), bad, good(1)}, {bad, bad}} {
			p := &pair{x: laid(t, rows...), y: laid(t, rows...)}
			if err := p.open(t, self); err != api.ErrForm {
				t.Errorf("wrong row %d, %v, of %d: %v", i, bad, len(rows), err)
			}
		}
	}
}

// P12.1: the errors of the diary are told ahead of a row that is none of a keeper's.
func TestOpenTellsTheDiaryFirst(t *testing.T) {
	for _, c := range []struct {
		do   func(x *tape.Tape)
		want error
	}{
		{func(x *tape.Tape) { x.Append([]byte{1}); x.Fail(0) }, api.ErrDisk},
		{func(x *tape.Tape) { x.Append([]byte{1}); x.Arm(0) }, api.ErrDown},
		{func(x *tape.Tape) { x.Arm(0); x.Sync() }, api.ErrDown},
		{func(x *tape.Tape) { x.Append([]byte{1}) }, api.ErrForm},
		{func(x *tape.Tape) { x.Arm(0); x.Fail(0) }, api.ErrForm},
	} {
		bad := row(100, held(of(1, 1, 1)))
		p := &pair{x: laid(t, bad), y: laid(t, bad)}
		p.each(c.do)
		if err := p.open(t, self); err != c.want {
			t.Errorf("%v, want %v", err, c.want)
		}
	}
}

// starts is registers that a key may have when it is asked.
func starts() []api.Register {
	return []api.Register{
		{},
		{Promised: of(1, 1, 1)},
		held(of(1, 1, 1), 7, 8),
		{Promised: of(1, 1, 1), Accepted: of(0, 0, 1), Value: count(1, most)},
		held(of(greatest, greatest, greatest)),
	}
}

// P12.1: questions of each kind at the edges of keys, with ballots of all parts at the edges: above, equal to and below what is promised, with a part below 0, and no ballot.
func TestHandleByBallot(t *testing.T) {
	parts := []int{-1, 0, 1, 2, least, greatest}
	answers := map[int]int{}
	for _, r := range starts() {
		for code := range len(parts) * len(parts) * len(parts) {
			b := of(parts[code%6], parts[code/6%6], parts[code/36])
			for _, n := range []api.Note{ask(prepare, 4, b), ask(accept, 4, b), ask(accept, 4, b, 9, -9)} {
				p := both(t, row(4, r))
				for _, back := range p.handle(t, n) {
					answers[back.Kind]++
				}
				p.handle(t, n)
			}
		}
	}
	for kind, want := range map[int]int{promise: 80, done: 160, no: 50} {
		if answers[kind] < want {
			t.Errorf("%d answers of kind %d, want %d", answers[kind], kind, want)
		}
	}
}

// P12.1: keys from 0 to 99 have a register each; with others there is no answer, and nothing happens.
func TestHandleByKey(t *testing.T) {
	for _, kind := range []int{prepare, accept} {
		p := both(t)
		for key := range keys {
			for _, n := range []int{1, 5, 3} {
				if got := p.handle(t, ask(kind, key, of(n, key, 0))); len(got) != 1 {
					t.Errorf("key %d: %v", key, got)
				}
			}
		}
		rows, steps := p.k.Rows(), p.x.Steps()
		for _, key := range []int{-1, 100, 101, -100, 1 << 8, 1 << 32, least, greatest} {
			for _, n := range []int{0, 1, 9} {
				if got := p.handle(t, ask(kind, key, of(n, 0, 0))); len(got) != 0 {
					t.Errorf("key %d: %v", key, got)
				}
			}
			if got := p.k.Register(key); !same(got, api.Register{}) {
				t.Errorf("key %d: %v", key, got)
			}
		}
		if p.k.Rows() != rows || p.x.Steps() != steps {
			t.Errorf("%d rows, %d steps; want %d, %d", p.k.Rows(), p.x.Steps(), rows, steps)
		}
	}
}

// P12.1: values up to their bound are accepted, and told with a promise; greater ones aren't.
func TestHandleByValue(t *testing.T) {
	for _, first := range []int{least, -1, 0, 1 << 40, greatest - 99} {
		for n := range most + 1 {
			value := count(first, n)
			p := both(t)
			if got := p.handle(t, ask(accept, 99, of(1, 0, 0), value...)); len(got) != 1 || !note.Same(got[0], told(done, 99, of(1, 0, 0))) {
				t.Errorf("%d numbers: %v", n, got)
			}
			want := told(promise, 99, of(2, 0, 0), append([]int{1, 0, 0}, value...)...)
			if got := p.handle(t, ask(prepare, 99, of(2, 0, 0))); len(got) != 1 || !note.Same(got[0], want) || note.Check(got[0]) != nil {
				t.Errorf("%d numbers: %v", n, got)
			}
			if err := p.open(t, self); err != nil || !slices.Equal(p.k.Register(99).Value, value) {
				t.Errorf("%d numbers: %v, %v", n, err, p.k.Register(99))
			}
		}
		for _, n := range []int{most + 1, most + 2, 64, 65, 3000} {
			p := both(t, row(99, held(of(1, 0, 0), 7)))
			for b := range 3 {
				if got := p.handle(t, ask(accept, 99, of(b, 0, 0), count(first, n)...)); len(got) != 0 || p.x.Steps() != 1 {
					t.Errorf("%d numbers: %v", n, got)
				}
			}
		}
	}
}

// P12.1: of notes for another one none is answered.
func TestHandleForAnother(t *testing.T) {
	p := both(t, row(0, held(of(4, 0, 0), 7)))
	for _, to := range []int{-1, 0, 2, 4, 5, 999, 1000, -3, 3 + 1<<8, 3 + 1<<32, least, greatest} {
		for _, kind := range []int{prepare, accept} {
			for b := range 9 {
				n := ask(kind, 0, of(b, 0, 0))
				n.To = to
				if got := p.handle(t, n); len(got) != 0 || p.x.Steps() != 1 {
					t.Errorf("to %d: %v", to, got)
				}
			}
		}
	}
}

// P12.1: answers go to whom the question is from, itself too; a From that no node has is none of a note in form.
func TestHandleByFrom(t *testing.T) {
	for _, from := range []int{0, 1, self, 998, 999} {
		p := both(t)
		for _, n := range []api.Note{ask(prepare, 1, of(2, 0, 0)), ask(accept, 1, of(2, 0, 0), 5), ask(prepare, 1, of(1, 0, 0)), ask(accept, 1, of(1, 0, 0))} {
			n.From = from
			if got := p.handle(t, n); len(got) != 1 || got[0].To != from || got[0].From != self || note.Check(got[0]) != nil {
				t.Errorf("from %d: %v", from, got)
			}
		}
	}
	p := both(t)
	for _, from := range []int{-1, 1000, -999, 1 << 32, least, greatest} {
		for _, kind := range []int{prepare, accept} {
			n := ask(kind, 1, of(2, 0, 0))
			n.From = from
			if got := p.handle(t, n); len(got) != 0 || p.x.Steps() != 1 {
				t.Errorf("from %d: %v", from, got)
			}
		}
	}
}

// P12.1: notes of all other kinds have no answer, whatever is in them, in form or not.
func TestHandleOtherKinds(t *testing.T) {
	p := both(t, row(1, held(of(4, 0, 0), 7)))
	for _, kind := range []int{promise, done, no, 6, 7, 8, 9, 0, 10, 11, -1, -3, 1 + 1<<8, 1 + 1<<32, 3 + 1<<32, least, greatest} {
		for size := range 40 {
			for _, first := range []int{-1, 0, 1, 4} {
				n := api.Note{Kind: kind, From: asker, To: self, Nums: count(first, size)}
				if got := p.k.Handle(n); len(got) != 0 {
					t.Errorf("%v: %v", n, got)
				}
			}
		}
		p.handle(t, ask(kind, 1, of(9, 0, 0)))
	}
	n := api.Note{Kind: 7, From: asker, To: self, Nums: []int{1, 2}, Ops: []api.Op{{Seq: 1, Kind: 1}}}
	p.handle(t, n)
	n = api.Note{Kind: 8, From: asker, To: self, Nums: make([]int, 6), Entries: make([]api.Entry, 1)}
	p.handle(t, n)
}

// P12.1: questions that aren't in form have no answer: with too few and too many numbers, with operations, and with entries.
func TestHandleOutOfForm(t *testing.T) {
	p := both(t, row(1, held(of(4, 0, 0), 7)))
	for size := range 45 {
		for _, kind := range []int{prepare, accept} {
			for _, first := range []int{0, 1, 2, 99} {
				n := api.Note{Kind: kind, From: asker, To: self, Nums: count(first, size)}
				got := p.handle(t, n)
				if answered := size == 4 || kind == accept && size > 4 && size <= 4+most; (len(got) == 1) != answered {
					t.Errorf("kind %d with %d numbers: %v", kind, size, got)
				}
			}
		}
	}
	p = both(t)
	for _, kind := range []int{prepare, accept} {
		n := ask(kind, 1, of(1, 0, 0))
		n.Ops = []api.Op{{Seq: 1, Kind: api.OpSample}}
		if got := p.handle(t, n); len(got) != 0 {
			t.Errorf("with operations: %v", got)
		}
		n.Ops, n.Entries = nil, make([]api.Entry, 1)
		if got := p.handle(t, n); len(got) != 0 {
			t.Errorf("with entries: %v", got)
		}
		n.Ops, n.Entries = []api.Op{}, []api.Entry{}
		if got := p.handle(t, n); len(got) != 1 || got[0].Kind == no {
			t.Errorf("with empty lists: %v", got)
		}
	}
	if p.k.Rows() != 2 {
		t.Errorf("%d rows", p.k.Rows())
	}
}

// questions is one of each that a row is written for.
func questions() []api.Note {
	return []api.Note{ask(prepare, 1, of(900, 0, 0)), ask(accept, 1, of(900, 0, 0), 5, 6)}
}

// P12.1: where the disk refuses one of a question's steps there is no answer, and the register stays; asked again, it is answered.
func TestHandleWhereTheDiskRefuses(t *testing.T) {
	for _, rows := range []int{1, enough, enough + 1} {
		for _, n := range questions() {
			for step := range 4 {
				p := both(t, many(rows, 1, 3)...)
				was, steps := p.k.Register(1), 2
				if rows > enough {
					steps = 3
				}
				p.each(func(x *tape.Tape) { x.Fail(step) })
				got := p.handle(t, n)
				if (len(got) == 1) != (step >= steps) {
					t.Errorf("at %d rows, step %d: %v", rows, step, got)
				}
				if step < steps && !same(p.k.Register(1), was) {
					t.Errorf("at %d rows, step %d: %v", rows, step, p.k.Register(1))
				}
				if step < steps {
					if got := p.handle(t, n); len(got) != 1 || got[0].Kind == no {
						t.Errorf("at %d rows, step %d, asked again: %v", rows, step, got)
					}
				}
				if err := p.open(t, self); err != nil {
					t.Error(err)
				}
			}
		}
	}
}

// P12.1: where the power goes within a question, and from then on, there is no answer, and the register stays.
func TestHandleWhereThePowerGoes(t *testing.T) {
	for _, rows := range []int{1, enough, enough + 1} {
		for _, n := range questions() {
			for step := range 3 {
				p := both(t, many(rows, 1, 3)...)
				was, steps := p.k.Register(1), 2
				if rows > enough {
					steps = 3
				}
				p.each(func(x *tape.Tape) { x.Arm(step) })
				if got := p.handle(t, n); (len(got) == 1) != (step >= steps) {
					t.Errorf("at %d rows, step %d: %v", rows, step, got)
				}
				if step >= steps {
					continue
				}
				for _, other := range append(questions(), ask(accept, 50, of(1, 0, 0))) {
					if got := p.handle(t, other); len(got) != 0 || !same(p.k.Register(1), was) {
						t.Errorf("at %d rows, step %d, down: %v, %v", rows, step, got, p.k.Register(1))
					}
				}
			}
		}
	}
}

// P12.1: a stale ballot is answered by what is promised, for which no step is made: neither a tape that refuses nor one that is down nor one that is full hinders it.
func TestRefusalNeedsNoTape(t *testing.T) {
	p := both(t, many(enough+1, 0, 1)...)
	want := told(no, 0, of(1, 0, 0), enough+1, 0, 7)
	stale := func() {
		t.Helper()
		for _, kind := range []int{prepare, accept} {
			if got := p.handle(t, ask(kind, 0, of(1, 0, 0))); len(got) != 1 || !note.Same(got[0], want) {
				t.Errorf("%v, want %v", got, want)
			}
		}
		if p.k.Rows() != enough+1 {
			t.Errorf("%d rows: nothing is added, so nothing is rewritten", p.k.Rows())
		}
	}
	stale()
	p.each(func(x *tape.Tape) { x.Fail(0) })
	stale()
	p.each(func(x *tape.Tape) { x.Append(make([]byte, room-len(x.Read()))) })
	p.each(func(x *tape.Tape) { x.Append(make([]byte, room-len(x.Read()))) })
	stale()
	p.each(func(x *tape.Tape) { x.Arm(0); x.Sync() })
	stale()
}

// P12.1: where the tape has no room there is no answer, and the register stays; where there is just enough, there is.
func TestHandleWhereTheTapeIsFull(t *testing.T) {
	for _, n := range questions() {
		for spare := range 60 {
			p := both(t, row(1, held(of(1, 2, 3), 4)))
			p.each(func(x *tape.Tape) { x.Append(make([]byte, room-len(x.Read())-spare)) })
			r, _ := with(held(of(1, 2, 3), 4), n)
			fits := spare >= 8+len(row(1, r)) // its frame
			if got := p.handle(t, n); (len(got) == 1) != fits {
				t.Errorf("room for %d bytes: %v", spare, got)
			}
			if got := p.k.Register(1); !fits && !same(got, held(of(1, 2, 3), 4)) || fits && !same(got, r) {
				t.Errorf("room for %d bytes: %v", spare, got)
			}
		}
	}
}

// P12.1: ahead of a row the diary is rewritten where it has more than 200 rows, and not at 200: to one row for each key whose register isn't the zero one, rising.
func TestRewriting(t *testing.T) {
	for _, span := range []int{1, 2, 7, 30, 90} {
		for rows := enough - 2; rows <= enough+3; rows++ {
			for _, n := range questions() {
				// Falling keys, so that the order of the rows isn't the one that they have already.
				list := many(rows, 5, span)
				slices.Reverse(list)
				p := both(t, list...)
				if got := p.handle(t, n); len(got) != 1 {
					t.Fatalf("at %d rows: %v", rows, got)
				}
				want, steps := rows+1, 2
				if rows > enough {
					want, steps = span+1, 3
				}
				if p.k.Rows() != want || p.x.Steps() != 1+steps {
					t.Errorf("at %d rows of %d keys: %d rows, %d steps, want %d, %d", rows, span, p.k.Rows(), p.x.Steps(), want, 1+steps)
				}
				if err := p.open(t, self); err != nil {
					t.Error(err)
				}
			}
		}
	}
}

// P12.1: the rows that a rewritten diary has, by hand: the one that is asked for is told as it was, ahead of the row that is added; keys with zero registers are left out.
func TestRewrittenRows(t *testing.T) {
	var list [][]byte
	for range enough {
		list = append(list, row(40, held(of(1, 1, 1), 1)))
	}
	last := []struct {
		key int
		r   api.Register
	}{
		{99, api.Register{Promised: of(0, 0, 1)}},
		{7, held(of(2, 2, 2), count(0, most)...)},
		{8, held(of(2, 2, 2))},
		{8, api.Register{}},
		{0, held(of(3, 0, 0))},
		{40, api.Register{Promised: of(9, 9, 9), Accepted: of(1, 1, 1), Value: []int{1}}},
	}
	for _, c := range last {
		list = append(list, row(c.key, c.r))
	}
	p := both(t, list...)
	p.handle(t, ask(accept, 7, of(3, 3, 3), 5))
	rows, size := frame.Split(p.x.Read())
	want := [][]byte{row(0, last[4].r), row(7, last[1].r), row(40, last[5].r), row(99, last[0].r), row(7, held(of(3, 3, 3), 5))}
	if size != len(p.x.Read()) || !slices.EqualFunc(rows, want, bytes.Equal) {
		t.Errorf("rows %v, want %v", rows, want)
	}
}

// P12.1: a diary of zero registers alone is rewritten to no row.
func TestRewrittenToNothing(t *testing.T) {
	var list [][]byte
	for i := range enough + 1 {
		list = append(list, row(i%keys, api.Register{}))
	}
	p := both(t, list...)
	if got := p.handle(t, ask(prepare, 3, of(1, 0, 0))); len(got) != 1 || p.k.Rows() != 1 {
		t.Errorf("%v, %d rows", got, p.k.Rows())
	}
}

// P12.1: where rewriting is refused the row isn't added either: the tape is as it was.
func TestRewritingIsRefused(t *testing.T) {
	for _, do := range []func(x *tape.Tape){
		func(x *tape.Tape) { x.Fail(0) },
		func(x *tape.Tape) { x.Arm(0) },
	} {
		for _, n := range questions() {
			p := both(t, many(enough+1, 0, 9)...)
			was := p.x.Read()
			p.each(do)
			got := p.handle(t, n)
			if len(got) != 0 || !bytes.Equal(p.x.Read(), was) || p.k.Rows() != enough+1 {
				t.Errorf("%v, %d bytes of %d, %d rows", got, len(p.x.Read()), len(was), p.k.Rows())
			}
			p.each(func(x *tape.Tape) { x.Crash(greatest) })
			if got := p.handle(t, n); len(got) != 1 || p.k.Rows() != 10 {
				t.Errorf("asked again: %v, %d rows", got, p.k.Rows())
			}
		}
	}
}

// P12.1: where rewriting is done and the row is refused, the rewritten rows stand.
func TestRewritingStaysWhereTheRowIsRefused(t *testing.T) {
	for step := 1; step <= 2; step++ {
		for _, n := range questions() {
			p := both(t, many(enough+1, 0, 9)...)
			was := p.k.Register(1)
			p.each(func(x *tape.Tape) { x.Fail(step) })
			if got := p.handle(t, n); len(got) != 0 || p.k.Rows() != 9 || !same(p.k.Register(1), was) {
				t.Errorf("%v, %d rows, %v", got, p.k.Rows(), p.k.Register(1))
			}
		}
	}
}

// P12.1: many questions of all keys, with the greatest values: the diary is rewritten time and again, and never full.
func TestLongestRows(t *testing.T) {
	p := both(t)
	greatestBallot := func(i int) api.Ballot { return of(greatest-5000+i, greatest, greatest) }
	for i := range 900 {
		key := i * 37 % keys
		if got := p.handle(t, ask(accept, key, greatestBallot(i), count(least+i, most)...)); len(got) != 1 || got[0].Kind != done {
			t.Fatalf("question %d: %v", i, got)
		}
		if p.k.Rows() > enough+1 {
			t.Fatalf("%d rows", p.k.Rows())
		}
	}
	if err := p.open(t, self); err != nil {
		t.Error(err)
	}
}

// P12.1: a nil keeper has no answers, the zero register, and no rows.
func TestNil(t *testing.T) {
	var k *keeper.Keeper
	for _, n := range append(questions(), api.Note{}, ask(done, 0, of(0, 0, 0))) {
		for _, to := range []int{0, self} {
			n.To = to
			if got := k.Handle(n); len(got) != 0 {
				t.Error(got)
			}
		}
	}
	for _, key := range []int{-1, 0, 99, 100, least, greatest} {
		if got := k.Register(key); !same(got, api.Register{}) {
			t.Error(got)
		}
	}
	if k.Rows() != 0 {
		t.Error(k.Rows())
	}
}

// P12.1: keepers on tapes of their own know nothing of each other.
func TestApart(t *testing.T) {
	a, b := both(t), both(t)
	a.handle(t, ask(accept, 1, of(5, 0, 0), 5))
	b.handle(t, ask(prepare, 1, of(2, 0, 0)))
	b.handle(t, ask(accept, 1, of(2, 0, 0), 6))
	a.handle(t, ask(prepare, 1, of(2, 0, 0)))
	a.expect(t)
	b.expect(t)
}

// anyNote is a note without an order to be seen: mostly a question, of few keys and low ballots, so that they meet.
func anyNote(s *scramble) api.Note {
	b := of(s.next(40), s.next(3), s.next(2))
	key := s.next(4)
	if s.next(12) == 0 {
		key = []int{-1, 99, 100, least, greatest, 57}[s.next(6)]
	}
	n := ask(prepare, key, b)
	if s.next(2) == 0 {
		n = ask(accept, key, b, count(s.next(1000)-500, s.next(4))...)
	}
	switch s.next(30) {
	case 0:
		n.Kind = s.next(12) - 1
	case 1:
		n.To = s.next(6)
	case 2:
		n.From = []int{-1, 0, 999, 1000}[s.next(4)]
	case 3:
		n.Nums = n.Nums[:s.next(len(n.Nums)+1)]
	case 4:
		n.Nums = append(n.Nums, count(0, s.next(40))...)
	case 5:
		n.Nums[1+s.next(3)] = []int{-1, least, greatest}[s.next(3)]
	}
	return n
}

// P12.1: notes of all kinds in any order, with disks that refuse, power that goes, crashes and Opens between them.
func TestLongRuns(t *testing.T) {
	for seed := range 60 {
		s := scramble(seed)
		// From some seeds on there are many rows already, so that the diary is rewritten within the run.
		p := both(t, many(seed*5, 0, 1+seed%9)...)
		for range 150 {
			switch s.next(24) {
			case 0:
				at := s.next(4)
				p.each(func(x *tape.Tape) { x.Fail(at) })
			case 1:
				at := s.next(6)
				p.each(func(x *tape.Tape) { x.Arm(at) })
			case 2, 3:
				keep := s.next(40) - 1
				p.each(func(x *tape.Tape) { x.Crash(keep) })
				p.open(t, self)
			case 4:
				p.open(t, self)
			}
			n := anyNote(&s)
			// Behind rows of high ballots low ones would all be stale.
			if len(n.Nums) > 1 && n.Nums[1] >= 0 && n.Nums[1] < 40 {
				n.Nums[1] += seed * 4
			}
			p.handle(t, n)
		}
	}
}

// roomy is a list between other numbers, which stand in its spare room too; whole is all of them.
func roomy(list []int) (whole, part []int) {
	whole = slices.Concat([]int{-77}, list, []int{-78, -79, -80, -81, -82, -83, -84, -85})
	return whole, whole[1 : 1+len(list)]
}

// scribble changes all numbers of a list, and those of its spare room.
func scribble(list []int) {
	list = list[:cap(list)]
	for i := range list {
		list[i] = -99
	}
}

// P12.1: what is handed in is neither changed nor kept, its spare room included, whatever is answered.
func TestNotesAreNeitherChangedNorKept(t *testing.T) {
	for _, n := range []api.Note{
		ask(prepare, 1, of(9, 0, 0)),
		ask(prepare, 1, of(1, 0, 0)),
		ask(accept, 1, of(9, 0, 0)),
		ask(accept, 1, of(9, 0, 0), 5),
		ask(accept, 1, of(9, 0, 0), count(5, most)...),
		ask(accept, 1, of(1, 0, 0), 5),
		ask(accept, 100, of(1, 0, 0), 5),
		ask(accept, 1, of(1, -1, 0), 5),
		ask(promise, 1, of(1, 0, 0), 5, 6, 7),
	} {
		p := both(t, row(1, held(of(3, 3, 3), 7, 8)))
		list, part := roomy(n.Nums)
		was := slices.Clone(list)
		handed := n
		handed.Nums = part
		got, want := p.k.Handle(handed), p.m.handle(n)
		if !slices.Equal(list, was) {
			t.Errorf("Handle(%v) changed what is handed in to %v", n, list)
		}
		scribble(part)
		if !slices.EqualFunc(got, want, note.Same) {
			t.Errorf("Handle(%v) answers what is handed in: %v", n, got)
		}
		p.expect(t)
		for _, back := range got {
			scribble(back.Nums)
		}
		p.expect(t)
		p.handle(t, ask(prepare, 1, of(10, 0, 0)))
	}
}

// P12.1: answers and registers are new memory: a keeper stays as it is when they are changed, and no two share any.
func TestAnswersAreNewMemory(t *testing.T) {
	p := both(t, row(1, held(of(3, 3, 3), 7, 8, 9)))
	for i := range 6 {
		one, two := p.k.Register(1), p.k.Register(1)
		scribble(one.Value)
		if want := p.m.held[1]; !same(two, want) {
			t.Errorf("two registers share memory: %v, want %v", two, want)
		}
		p.expect(t)
		got, want := p.k.Handle(ask(prepare, 1, of(4+i, 0, 0))), p.m.handle(ask(prepare, 1, of(4+i, 0, 0)))
		r := p.k.Register(1)
		scribble(r.Value)
		if !slices.EqualFunc(got, want, note.Same) {
			t.Errorf("a register shares memory with an answer: %v, want %v", got, want)
		}
		scribble(got[0].Nums)
		p.expect(t)
		if i == 3 {
			p.handle(t, ask(accept, 1, of(4+i, 0, 0), 1, 2, 3, 4))
		}
	}
	if err := p.open(t, self); err != nil {
		t.Error(err)
	}
}

// ledger is what a keeper's answers tell of its registers, and the one question that was cut.
type ledger struct {
	sure map[int]api.Register
	cut  []api.Note // none or one
}

// newLedger is what a keeper's registers are at first.
func newLedger(k *keeper.Keeper) *ledger {
	l := &ledger{sure: map[int]api.Register{}}
	for key := range keys {
		l.sure[key] = k.Register(key)
	}
	return l
}

// ask hands a question to a keeper, and writes down what the answer tells.
func (l *ledger) ask(t *testing.T, k *keeper.Keeper, x *tape.Tape, n api.Note) {
	t.Helper()
	wasDown := x.Down()
	key := n.Nums[0]
	was := l.sure[key]
	got := k.Handle(n)
	if len(got) == 0 {
		if !wasDown && x.Down() {
			l.cut = []api.Note{n}
		}
		return
	}
	switch b := note.Ballot(n.Nums[1:]); got[0].Kind {
	case promise:
		accepted, value := note.Ballot(got[0].Nums[4:]), got[0].Nums[7:]
		if accepted != was.Accepted || !slices.Equal(value, was.Value) || !below(was.Promised, b) {
			t.Fatalf("of %v, asked %v: %v", was, n, got)
		}
		l.sure[key] = api.Register{Promised: b, Accepted: accepted, Value: slices.Clone(value)}
	case done:
		if below(b, was.Promised) {
			t.Fatalf("of %v, asked %v: %v", was, n, got)
		}
		l.sure[key] = held(b, slices.Clone(n.Nums[4:])...)
	case no:
		if note.Ballot(got[0].Nums[4:]) != was.Promised {
			t.Fatalf("of %v, asked %v: %v", was, n, got)
		}
	}
}

// check checks a keeper that is opened behind a crash: each register is as at the last answer, or with the one question that was cut. It answers whether that one is there.
func (l *ledger) check(t *testing.T, k *keeper.Keeper) bool {
	t.Helper()
	there := false
	for key := range keys {
		got, was := k.Register(key), l.sure[key]
		if !inForm(got) || below(got.Promised, was.Promised) || below(got.Accepted, was.Accepted) {
			t.Fatalf("key %d goes back from %v to %v", key, was, got)
		}
		if same(got, was) {
			continue
		}
		if len(l.cut) == 0 || l.cut[0].Nums[0] != key {
			t.Fatalf("key %d: %v, want %v", key, got, was)
		}
		next, stale := with(was, l.cut[0])
		if stale || !same(got, next) {
			t.Fatalf("key %d: %v, want %v, or %v by %v", key, got, was, next, l.cut[0])
		}
		l.sure[key] = next
		there = true
	}
	l.cut = nil
	return there
}

// reopened is the keeper of a tape behind a crash.
func reopened(t *testing.T, x *tape.Tape, keep int) *keeper.Keeper {
	t.Helper()
	x.Crash(keep)
	k, err := keeper.Open(self, x)
	if err != nil {
		t.Fatalf("behind a crash that keeps %d: %v", keep, err)
	}
	return k
}

// script is questions that come one behind the other, of some keys, and stale ones between them.
func script(first int) []api.Note {
	return []api.Note{
		ask(prepare, 1, of(first, 1, 0)),
		ask(accept, 1, of(first, 1, 0), 5, 6),
		ask(prepare, 0, of(first, 1, 0)),
		ask(prepare, 1, of(first, 0, 9)),
		ask(prepare, 1, of(first, 2, 0)),
		ask(accept, 1, of(first, 1, 0), 8),
		ask(accept, 1, of(first, 2, 0), 9),
		ask(accept, 1, of(first, 2, 0), 10, 11, 12),
		ask(accept, 99, of(first, 2, 0), count(1, most)...),
		ask(prepare, 99, of(first+1, 2, 0)),
	}
}

// P12.2 and P12.3: the power goes at each step of a script, and each number of bytes is kept: behind the crash what was answered is there, and at most the one question that was cut; so it is from there on. At some rows the diary is rewritten within the script.
func TestPowerGoesAtEachStep(t *testing.T) {
	for _, rows := range []int{0, enough - 4, enough - 1, enough, enough + 1} {
		there, gone := 0, 0
		for arm := range 20 {
			for keep := -1; keep < 95; keep++ { // more than the longest row has
				x := laid(t, many(rows, 0, 3)...)
				k := reopened(t, x, 0)
				l := newLedger(k)
				x.Arm(arm)
				for _, n := range script(1000) {
					l.ask(t, k, x, n)
				}
				cut := len(l.cut) > 0
				k = reopened(t, x, keep)
				if l.check(t, k) {
					there++
				} else if cut {
					gone++
				}
				for _, n := range script(1001) {
					l.ask(t, k, x, n)
				}
				l.check(t, reopened(t, x, 0))
			}
		}
		if there < 100 || gone < 100 {
			t.Errorf("at %d rows the question that was cut is there %d times, not there %d times", rows, there, gone)
		}
	}
}

// P12.2: a crash behind each question, when no power went within it, changes nothing, whatever is kept.
func TestCrashBehindEachQuestion(t *testing.T) {
	for _, rows := range []int{0, enough - 3, enough + 1} {
		for _, keep := range []int{least, -1, 0, 1, 100, greatest} {
			x := laid(t, many(rows, 0, 3)...)
			k := reopened(t, x, keep)
			l := newLedger(k)
			for _, n := range script(1000) {
				l.ask(t, k, x, n)
				was := k.Rows()
				k = reopened(t, x, keep)
				if l.check(t, k) || k.Rows() != was {
					t.Errorf("behind %v: %d rows, want %d", n, k.Rows(), was)
				}
			}
		}
	}
}

// P12.2: what a disk refused is never there, whatever comes behind it: neither in the next crash nor behind further questions.
func TestRefusedIsNeverThere(t *testing.T) {
	for _, rows := range []int{0, enough - 3, enough + 1} {
		for fail := range 24 {
			for _, keep := range []int{-1, 0, 20, greatest} {
				x := laid(t, many(rows, 0, 3)...)
				k := reopened(t, x, 0)
				l := newLedger(k)
				x.Fail(fail)
				for _, n := range script(1000) {
					l.ask(t, k, x, n)
				}
				if l.check(t, reopened(t, x, keep)) {
					t.Errorf("at %d rows, step %d: what was refused is there", rows, fail)
				}
			}
		}
	}
}

// P12.2 and P12.3: long runs of questions with disks that refuse, power that goes, within Open too, and crashes that keep anything: what was answered stays, registers stay in form, and none goes back.
func TestCrashes(t *testing.T) {
	there, opens := 0, 0
	for seed := range 150 {
		s := scramble(seed + 7000)
		x := laid(t, many(seed*2, 0, 3)...)
		k := reopened(t, x, 0)
		l := newLedger(k)
		top := seed * 2
		for range 120 {
			switch s.next(10) {
			case 0:
				x.Fail(s.next(4))
			case 1:
				x.Arm(s.next(6))
			}
			top += s.next(2)
			n := ask(prepare, s.next(4), of(top, s.next(3), 0))
			if s.next(2) == 0 {
				n = ask(accept, s.next(4), of(top, s.next(3), 0), count(s.next(99), s.next(5))...)
			}
			l.ask(t, k, x, n)
			if !x.Down() && s.next(15) > 0 {
				continue
			}
			x.Crash(s.next(60) - 1)
			// A start may be cut too; nothing is lost by it.
			if s.next(3) == 0 {
				x.Arm(0)
				if _, err := keeper.Open(self, x); err == api.ErrDown {
					opens++
				}
			}
			if l.check(t, reopenedAs(t, x, s.next(60)-1, &k)) {
				there++
			}
		}
	}
	if there < 100 || opens < 50 {
		t.Errorf("the question that was cut is there %d times, Open is cut %d times", there, opens)
	}
}

// reopenedAs opens a keeper behind a crash, and sets it.
func reopenedAs(t *testing.T, x *tape.Tape, keep int, k **keeper.Keeper) *keeper.Keeper {
	t.Helper()
	*k = reopened(t, x, keep)
	return *k
}

// P12.3: behind a promise that was answered no lesser ballot is accepted, and none promised twice, through any crashes.
func TestPromisesHoldThroughCrashes(t *testing.T) {
	for seed := range 200 {
		s := scramble(seed + 9000)
		x := tape.New()
		k := reopened(t, x, 0)
		var top api.Ballot // the greatest that was answered
		for range 80 {
			if s.next(8) == 0 {
				x.Arm(s.next(3))
			}
			n := ask([]int{prepare, accept}[s.next(2)], 5, of(1+s.next(60), s.next(2), s.next(2)), s.next(9))
			if n.Kind == prepare {
				n.Nums = n.Nums[:4]
			}
			b := note.Ballot(n.Nums[1:])
			for _, back := range k.Handle(n) {
				switch {
				case back.Kind == no:
					continue
				case ballot.Less(b, top), back.Kind == promise && b == top:
					t.Fatalf("seed %d: behind an answer for %v: %v", seed, top, back)
				}
				top = b
			}
			if !ballot.Good(k.Register(5)) || ballot.Less(k.Register(5).Promised, top) {
				t.Fatalf("seed %d: behind an answer for %v: %v", seed, top, k.Register(5))
			}
			if x.Down() || s.next(10) == 0 {
				k = reopened(t, x, s.next(60)-1)
			}
		}
	}
}
