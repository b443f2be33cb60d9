package ballot_test

import (
	"math"
	"slices"
	"testing"

	"estuary/api"
	"estuary/ballot"
)

const (
	least    = math.MinInt
	greatest = math.MaxInt
	most     = 32 // numbers of a value, as the chapter writes them
)

// of is the ballot with these parts.
func of(n, node, life int) api.Ballot { return api.Ballot{N: n, Node: node, Life: life} }

// none is no ballot.
func none() api.Ballot { return of(0, 0, 0) }

// register is the register with these ballots and this value.
func register(promised, accepted api.Ballot, value ...int) api.Register {
	return api.Register{Promised: promised, Accepted: accepted, Value: value}
}

// ballots is all ballots with parts of a rising list: they rise, too.
func ballots(parts ...int) []api.Ballot {
	var list []api.Ballot
	for _, n := range parts {
		for _, node := range parts {
			for _, life := range parts {
				list = append(list, of(n, node, life))
			}
		}
	}
	return list
}

// count is so many numbers, which differ, from a first one on.
func count(first, n int) []int {
	list := make([]int, n)
	for i := range list {
		list[i] = first + i
	}
	return list
}

// same tells whether two registers are the same, where a nil and an empty value are.
func same(a, b api.Register) bool {
	return a.Promised == b.Promised && a.Accepted == b.Accepted && slices.Equal(a.Value, b.Value)
}

// copied is a register that shares no memory with another one.
func copied(r api.Register) api.Register {
	r.Value = slices.Clone(r.Value)
	return r
}

// row is a ballot's parts in the order in which they count.
func row(b api.Ballot) []int { return []int{b.N, b.Node, b.Life} }

// compare holds ballots against each other: below 0, if a is the lesser one.
func compare(a, b api.Ballot) int { return slices.Compare(row(a), row(b)) }

// inForm tells by the chapter's words whether a register is in form.
func inForm(r api.Register) bool {
	switch {
	case compare(r.Accepted, r.Promised) > 0:
		return false
	case slices.Min(append(row(r.Promised), row(r.Accepted)...)) < 0:
		return false
	case len(r.Value) > most:
		return false
	case r.Accepted == none() && len(r.Value) > 0:
		return false
	}
	return true
}

// formError is the model's error of a register and a ballot that aren't in form.
func formError(r api.Register, b api.Ballot) error {
	if !inForm(r) || slices.Min(row(b)) < 0 || b == none() {
		return api.ErrForm
	}
	return nil
}

// prepare is Prepare by the chapter's words.
func prepare(r api.Register, b api.Ballot) (api.Register, error) {
	if err := formError(r, b); err != nil {
		return api.Register{}, err
	}
	if compare(b, r.Promised) <= 0 {
		return api.Register{}, api.ErrStale
	}
	r = copied(r)
	r.Promised = b
	return r, nil
}

// accept is Accept by the chapter's words.
func accept(r api.Register, b api.Ballot, value []int) (api.Register, error) {
	if err := formError(r, b); err != nil {
		return api.Register{}, err
	}
	if len(value) > most {
		return api.Register{}, api.ErrForm
	}
	if compare(b, r.Promised) < 0 {
		return api.Register{}, api.ErrStale
	}
	return register(b, b, slices.Clone(value)...), nil
}

// expectPrepare checks what Prepare answers.
func expectPrepare(t *testing.T, r api.Register, b api.Ballot, want api.Register, wantErr error) {
	t.Helper()
	if got, err := ballot.Prepare(r, b); !same(got, want) || err != wantErr {
		t.Errorf("Prepare(%v, %v): %v, %v, want %v, %v", r, b, got, err, want, wantErr)
	}
}

// expectAccept checks what Accept answers.
func expectAccept(t *testing.T, r api.Register, b api.Ballot, value []int, want api.Register, wantErr error) {
	t.Helper()
	if got, err := ballot.Accept(r, b, value); !same(got, want) || err != wantErr {
		t.Errorf("Accept(%v, %v, %v): %v, %v, want %v, %v", r, b, value, got, err, want, wantErr)
	}
}

// P9.1: the chapter's example.
func TestExample(t *testing.T) {
	zero, one, two := api.Register{}, of(1, 0, 0), of(1, 0, 1)
	expectPrepare(t, zero, one, register(one, none()), nil)
	r, _ := ballot.Prepare(zero, one)
	expectAccept(t, r, one, []int{7}, register(one, one, 7), nil)
	r, _ = ballot.Accept(r, one, []int{7})
	expectPrepare(t, r, one, zero, api.ErrStale)
	expectAccept(t, r, of(0, 9, 9), []int{8}, zero, api.ErrStale)
	expectPrepare(t, r, two, register(two, one, 7), nil)
}

// P9.1: N counts ahead of Node, and Node ahead of Life.
func TestLessOfWrittenCases(t *testing.T) {
	rising := []api.Ballot{
		of(least, greatest, greatest), of(-1, greatest, greatest),
		of(0, least, greatest), of(0, -1, 5), of(0, 0, least), of(0, 0, -1), none(), of(0, 0, 1), of(0, 0, greatest), of(0, 9, 9),
		of(1, 0, 0), of(1, 0, 1), of(1, 1, 0), of(2, 0, 0), of(greatest, least, least), of(greatest, greatest, greatest-1), of(greatest, greatest, greatest),
	}
	for i, a := range rising {
		for j, b := range rising {
			if got := ballot.Less(a, b); got != (i < j) {
				t.Errorf("Less(%v, %v): %v", a, b, got)
			}
		}
	}
}

// P9.1: all ballots of parts at the edges stand in one order.
func TestLessOfAllPairs(t *testing.T) {
	list := ballots(least, least+1, -1, 0, 1, 2, greatest-1, greatest)
	for i, a := range list {
		for j, b := range list {
			if got := ballot.Less(a, b); got != (i < j) {
				t.Fatalf("Less(%v, %v): %v", a, b, got)
			}
		}
	}
}

// P9.1: the next ballot is of its node and life, whoever made the one ahead of it.
func TestNext(t *testing.T) {
	edges := []int{least, least + 1, -2, -1, 0, 1, 7, greatest - 1, greatest}
	for _, b := range ballots(edges...) {
		for _, node := range edges {
			for _, life := range edges {
				want := of(b.N+1, node, life)
				if got := ballot.Next(b, node, life); got != want {
					t.Fatalf("Next(%v, %d, %d): %v, want %v", b, node, life, got, want)
				}
				if b.N < greatest && !ballot.Less(b, ballot.Next(b, node, life)) {
					t.Fatalf("Next(%v, %d, %d) isn't above it", b, node, life)
				}
			}
		}
	}
	if got := ballot.Next(of(1, 0, 1), 4, 5); got != of(2, 4, 5) {
		t.Error(got)
	}
}

// P9.1, and rule 6: behind the greatest N comes the least one.
func TestNextWrapsAround(t *testing.T) {
	if got := ballot.Next(of(greatest, 1, 2), 3, 4); got != of(least, 3, 4) {
		t.Error(got)
	}
	if got := ballot.Next(of(greatest-1, 1, 2), 3, 4); got != of(greatest, 3, 4) {
		t.Error(got)
	}
	if got := ballot.Next(of(-1, 1, 2), 0, 0); got != none() {
		t.Error(got)
	}
	expectPrepare(t, register(of(greatest, 0, 0), none()), ballot.Next(of(greatest, 0, 0), 1, 1), api.Register{}, api.ErrForm)
}

// sound is registers in form, at the edges.
func sound() []api.Register {
	one, top := of(1, 0, 0), of(greatest, greatest, greatest)
	return []api.Register{
		{},
		{Value: []int{}},
		register(one, none()),
		register(of(0, 0, 1), none()),
		register(of(0, 1, 0), none()),
		register(top, none()),
		register(one, one),
		register(one, one, 7),
		register(one, of(0, 9, 9), 7),
		register(one, of(0, 0, 1), 7),
		register(of(0, 0, 1), of(0, 0, 1), 7),
		register(of(2, 0, 0), one, count(-5, most-1)...),
		register(one, one, count(-5, most)...),
		register(top, top, least, -1, 0, greatest),
		register(top, of(greatest, greatest, greatest-1), count(greatest-5, most)...),
	}
}

// broken is registers that aren't in form, each for one reason, and some for several.
func broken() []api.Register {
	one, two := of(1, 0, 0), of(2, 0, 0)
	list := []api.Register{
		register(one, two),
		register(one, two, 7),
		register(none(), one),
		register(none(), of(0, 0, 1)),
		register(of(1, 1, 0), of(1, 1, 1), 7),
		register(of(1, 0, 9), of(1, 1, 0), 7),
		register(of(greatest, greatest, greatest-1), of(greatest, greatest, greatest)),
		register(one, one, count(0, most+1)...),
		register(one, one, count(0, 1000)...),
		register(two, one, count(0, most+1)...),
		register(one, none(), 0),
		register(one, none(), 7),
		register(none(), none(), 7),
		register(none(), none(), 0),
		register(one, none(), count(0, most)...),
		register(one, none(), count(0, most+1)...),
		register(of(-1, 0, 0), of(-1, 0, 0), count(0, most+1)...),
	}
	for _, low := range []int{-1, -2, least, least + 1} {
		list = append(list,
			register(of(low, 0, 0), of(low, 0, 0)),
			register(of(low, 0, 1), of(low, 0, 0), 7),
			register(of(low, 0, 0), none()),
			register(of(0, low, 0), none()),
			register(of(0, 0, low), none()),
			register(of(1, low, 0), none()),
			register(of(1, 0, low), none()),
			register(of(1, low, 0), of(0, 0, 1), 7),
			register(of(1, 0, low), of(0, 0, 1), 7),
			register(one, of(low, 0, 0)),
			register(one, of(0, low, 0)),
			register(one, of(0, 0, low)),
			register(one, of(low, 5, 5), 7),
			register(two, of(1, low, 0), 7),
			register(two, of(1, 0, low), 7),
			register(of(low, low, low), of(low, low, low), 7),
		)
	}
	return list
}

// asking is ballots that a register may be asked with.
func asking() []api.Ballot {
	return []api.Ballot{of(0, 0, 1), of(0, 1, 0), of(1, 0, 0), of(1, 0, 1), of(5, 6, 7), of(greatest, 0, 0), of(0, greatest, 0), of(0, 0, greatest), of(greatest, greatest, greatest)}
}

// wrong is ballots that no register may be asked with.
func wrong() []api.Ballot {
	list := []api.Ballot{none()}
	for _, low := range []int{-1, -2, least, least + 1} {
		list = append(list,
			of(low, 0, 0), of(low, 5, 5), of(low, greatest, greatest),
			of(0, low, 0), of(5, low, 5), of(greatest, low, greatest),
			of(0, 0, low), of(5, 5, low), of(greatest, greatest, low),
			of(low, low, low),
		)
	}
	return list
}

// P9.1: Good at written registers.
func TestGoodOfWrittenCases(t *testing.T) {
	for _, r := range sound() {
		if !ballot.Good(r) {
			t.Errorf("Good(%v): false", r)
		}
	}
	for _, r := range broken() {
		if ballot.Good(r) {
			t.Errorf("Good(%v): true", r)
		}
	}
}

// P9.1: each number of a value up to 32 is in form, if there is an accepted ballot; without one just none.
func TestGoodByLength(t *testing.T) {
	one := of(1, 0, 0)
	for n := range 3 * most {
		if got := ballot.Good(register(one, one, count(0, n)...)); got != (n <= most) {
			t.Errorf("%d numbers: %v", n, got)
		}
		if got := ballot.Good(register(one, none(), count(0, n)...)); got != (n == 0) {
			t.Errorf("%d numbers, though none is accepted: %v", n, got)
		}
	}
}

// P9.1: Prepare of ballots below, at and above what is promised.
func TestPrepareOfWrittenCases(t *testing.T) {
	p, a := of(5, 5, 5), of(3, 9, 9)
	r := register(p, a, 7, 8)
	for _, b := range []api.Ballot{of(5, 5, 6), of(5, 6, 0), of(6, 0, 0), of(5, greatest, 0), of(greatest, greatest, greatest)} {
		expectPrepare(t, r, b, register(b, a, 7, 8), nil)
		expectPrepare(t, register(p, none()), b, register(b, none()), nil)
		expectPrepare(t, register(p, p, 9), b, register(b, p, 9), nil)
		expectPrepare(t, register(p, p), b, register(b, p), nil)
	}
	for _, b := range []api.Ballot{p, of(5, 5, 4), of(5, 4, 9), of(4, 9, 9), a, of(3, 9, 8), of(0, 0, 1), of(0, greatest, greatest)} {
		expectPrepare(t, r, b, api.Register{}, api.ErrStale)
		expectPrepare(t, register(p, none()), b, api.Register{}, api.ErrStale)
		expectPrepare(t, register(p, p, 9), b, api.Register{}, api.ErrStale)
	}
}

// P9.1: Accept of ballots below, at and above what is promised.
func TestAcceptOfWrittenCases(t *testing.T) {
	p, a := of(5, 5, 5), of(3, 9, 9)
	for _, r := range []api.Register{register(p, a, 7, 8), register(p, none()), register(p, p, 9), register(p, p)} {
		for _, b := range []api.Ballot{p, of(5, 5, 6), of(5, 6, 0), of(6, 0, 0), of(greatest, greatest, greatest)} {
			for _, n := range []int{0, 1, 2, most - 1, most} {
				expectAccept(t, r, b, count(40, n), register(b, b, count(40, n)...), nil)
			}
			expectAccept(t, r, b, nil, register(b, b), nil)
			for _, n := range []int{most + 1, most + 2, 1000} {
				expectAccept(t, r, b, count(40, n), api.Register{}, api.ErrForm)
			}
		}
		for _, b := range []api.Ballot{of(5, 5, 4), of(5, 4, 9), of(4, 9, 9), a, of(3, 9, 8), of(0, 0, 1), of(0, greatest, greatest)} {
			for _, n := range []int{0, 1, most} {
				expectAccept(t, r, b, count(40, n), api.Register{}, api.ErrStale)
			}
		}
	}
}

// P9.1, and rule 2: what isn't in form is told ahead of what is stale, and the register is the zero one.
func TestFormAheadOfStale(t *testing.T) {
	high := register(of(9, 9, 9), of(9, 9, 9), 7)
	expectAccept(t, high, of(1, 0, 0), count(0, most+1), api.Register{}, api.ErrForm)
	expectAccept(t, high, of(9, 9, 9), count(0, most+1), api.Register{}, api.ErrForm)
	for _, b := range wrong() {
		expectPrepare(t, high, b, api.Register{}, api.ErrForm)
		expectAccept(t, high, b, []int{1}, api.Register{}, api.ErrForm)
	}
	for _, r := range broken() {
		for _, b := range asking() {
			expectPrepare(t, r, b, api.Register{}, api.ErrForm)
			expectAccept(t, r, b, []int{1}, api.Register{}, api.ErrForm)
			expectAccept(t, r, b, count(0, most+1), api.Register{}, api.ErrForm)
		}
	}
}

// P9.1: ballots that no register may be asked with, at each register.
func TestWrongBallots(t *testing.T) {
	for _, r := range append(sound(), broken()...) {
		for _, b := range wrong() {
			expectPrepare(t, r, b, api.Register{}, api.ErrForm)
			expectAccept(t, r, b, nil, api.Register{}, api.ErrForm)
			expectAccept(t, r, b, []int{1}, api.Register{}, api.ErrForm)
			expectAccept(t, r, b, count(0, most+1), api.Register{}, api.ErrForm)
		}
	}
}

// values is values of all kinds of lengths.
func values() [][]int {
	return [][]int{nil, {7}, count(50, most), count(50, most+1)}
}

// P9.1 and P9.2: all calls against the model, at all registers and ballots of a few parts.
func TestAgainstModel(t *testing.T) {
	for _, list := range [][]api.Ballot{
		ballots(-1, 0, 1), ballots(0, 1, 2), ballots(least, 0, greatest), ballots(0, greatest-1, greatest),
	} {
		for _, promised := range list {
			for _, accepted := range list {
				for _, value := range values() {
					againstModel(t, register(promised, accepted, value...), list)
				}
			}
		}
	}
}

// againstModel holds all calls of a register against the model.
func againstModel(t *testing.T, r api.Register, list []api.Ballot) {
	t.Helper()
	if got, want := ballot.Good(r), inForm(r); got != want {
		t.Fatalf("Good(%v): %v", r, got)
	}
	for _, b := range list {
		got, err := ballot.Prepare(r, b)
		want, wantErr := prepare(r, b)
		if !same(got, want) || err != wantErr {
			t.Fatalf("Prepare(%v, %v): %v, %v, want %v, %v", r, b, got, err, want, wantErr)
		}
		holdsOrder(t, r, got, err)
		for _, value := range values() {
			got, err := ballot.Accept(r, b, value)
			want, wantErr := accept(r, b, value)
			if !same(got, want) || err != wantErr {
				t.Fatalf("Accept(%v, %v, %v): %v, %v, want %v, %v", r, b, value, got, err, want, wantErr)
			}
			holdsOrder(t, r, got, err)
		}
	}
}

// holdsOrder checks that a register that became another one is in form still, and that nothing of it became less.
func holdsOrder(t *testing.T, from, to api.Register, err error) {
	t.Helper()
	if err != nil {
		return
	}
	if !ballot.Good(to) || !inForm(to) {
		t.Fatalf("%v became %v, which isn't in form", from, to)
	}
	if ballot.Less(to.Promised, from.Promised) || compare(to.Promised, from.Promised) < 0 {
		t.Fatalf("%v became %v, which promises less", from, to)
	}
	if ballot.Less(to.Accepted, from.Accepted) || compare(to.Accepted, from.Accepted) < 0 {
		t.Fatalf("%v became %v, which accepted less", from, to)
	}
}

// P9.1: the numbers of written registers, in form or not.
func TestNumsOfWrittenCases(t *testing.T) {
	for _, c := range []struct {
		r    api.Register
		want []int
	}{
		{api.Register{}, []int{0, 0, 0, 0, 0, 0}},
		{register(of(4, 5, 6), of(1, 2, 3)), []int{4, 5, 6, 1, 2, 3}},
		{register(of(4, 5, 6), of(1, 2, 3), 7, 8, 9), []int{4, 5, 6, 1, 2, 3, 7, 8, 9}},
		{register(of(1, 2, 3), of(4, 5, 6), 0), []int{1, 2, 3, 4, 5, 6, 0}},
		{register(of(least, -1, greatest), of(-2, greatest, least), least, greatest), []int{least, -1, greatest, -2, greatest, least, least, greatest}},
		{register(none(), none(), 7), []int{0, 0, 0, 0, 0, 0, 7}},
		{register(of(4, 5, 6), of(1, 2, 3), count(7, 300)...), append([]int{4, 5, 6, 1, 2, 3}, count(7, 300)...)},
	} {
		if got := ballot.Nums(c.r); !slices.Equal(got, c.want) {
			t.Errorf("Nums(%v): %v, want %v", c.r, got, c.want)
		}
	}
}

// expectNone checks that numbers are no register's.
func expectNone(t *testing.T, nums []int) {
	t.Helper()
	if r, ok := ballot.Take(nums); !same(r, api.Register{}) || ok {
		t.Errorf("Take(%v): %v, %v", nums, r, ok)
	}
}

// P9.4: a register in form comes back from its numbers; another one doesn't.
func TestTakeOfNums(t *testing.T) {
	for _, r := range sound() {
		if got, ok := ballot.Take(ballot.Nums(r)); !same(got, r) || !ok {
			t.Errorf("Take of Nums of %v: %v, %v", r, got, ok)
		}
	}
	for _, r := range broken() {
		expectNone(t, ballot.Nums(r))
	}
}

// P9.4: each length of a value comes back, up to 32.
func TestTakeByLength(t *testing.T) {
	head := []int{6, 5, 4, 3, 2, 1}
	for n := range 3 * most {
		nums := append(slices.Clone(head), count(-9, n)...)
		if n > most {
			expectNone(t, nums)
			continue
		}
		want := register(of(6, 5, 4), of(3, 2, 1), count(-9, n)...)
		if got, ok := ballot.Take(nums); !same(got, want) || !ok {
			t.Errorf("Take(%v): %v, %v", nums, got, ok)
		}
	}
}

// P9.1: fewer than six numbers are no register's, whatever lies behind them.
func TestTakeOfTooFew(t *testing.T) {
	expectNone(t, nil)
	expectNone(t, []int{})
	for _, r := range append(sound(), broken()...) {
		nums := ballot.Nums(r)
		for n := range 6 {
			expectNone(t, nums[:n])
			expectNone(t, nums[:n:n])
		}
	}
}

// P9.1: numbers that make no register in form.
func TestTakeOfWrongNumbers(t *testing.T) {
	for _, nums := range [][]int{
		{1, 0, 0, 2, 0, 0}, {1, 0, 0, 1, 0, 1}, {1, 0, 5, 1, 1, 0}, {0, 0, 0, 0, 0, 1}, // accepted above promised
		{1, 0, 0, 0, 0, 0, 5}, {0, 0, 0, 0, 0, 0, 0}, {1, 1, 1, 0, 0, 0, 0}, // a value, though none is accepted
		{-1, 0, 0, 0, 0, 0}, {-1, 0, 0, -1, 0, 0}, {-1, 0, 0, -2, 0, 0, 1}, {least, 0, 0, least, 0, 0},
	} {
		expectNone(t, nums)
	}
	for i := range 6 {
		for _, low := range []int{-1, -2, least} {
			nums := []int{2, 2, 2, 1, 1, 1, 7}
			nums[i] = low
			expectNone(t, nums)
			expectNone(t, nums[:6])
		}
	}
	// Numbers of a value may be any.
	if r, ok := ballot.Take([]int{2, 2, 2, 1, 1, 1, -1, least}); !same(r, register(of(2, 2, 2), of(1, 1, 1), -1, least)) || !ok {
		t.Error(r, ok)
	}
}

// P9.4: what Take takes has the same numbers again, of all rows of a few numbers.
func TestNumsOfTake(t *testing.T) {
	few := []int{-1, 0, 1, 2, greatest}
	taken := 0
	for code := range 5 * 5 * 5 * 5 * 5 * 5 {
		nums := make([]int, 6, 8)
		for i := range nums {
			nums[i], code = few[code%len(few)], code/len(few)
		}
		for range 3 {
			r, ok := ballot.Take(nums)
			want := register(of(nums[0], nums[1], nums[2]), of(nums[3], nums[4], nums[5]), nums[6:]...)
			if ok != inForm(want) {
				t.Fatalf("Take(%v): %v, %v", nums, r, ok)
			}
			if !ok {
				expectNone(t, nums)
			} else if taken++; !same(r, want) || !slices.Equal(ballot.Nums(r), nums) {
				t.Fatalf("Take(%v): %v", nums, r)
			}
			nums = append(nums, -1)
		}
	}
	// Of 64 ballots without a part below 0 each is held against itself and the lesser ones; no ballot has no value.
	if want := 64*65/2 + 2*(64*65/2-64); taken != want {
		t.Errorf("%d rows were a register's, want %d", taken, want)
	}
}

// step is a call that asks a register.
type step struct {
	accepts bool
	b       api.Ballot
	value   []int
}

// steps is each call with each of some ballots, and with values that differ.
func steps(list []api.Ballot) []step {
	var all []step
	for i, b := range list {
		all = append(all, step{b: b}, step{accepts: true, b: b, value: []int{i, -i}})
	}
	return all
}

// do makes a step's call of a register.
func (s step) do(r api.Register) (api.Register, error) {
	if s.accepts {
		return ballot.Accept(r, s.b, s.value)
	}
	return ballot.Prepare(r, s.b)
}

// model makes a step by the chapter's words.
func (s step) model(r api.Register) (api.Register, error) {
	if s.accepts {
		return accept(r, s.b, s.value)
	}
	return prepare(r, s.b)
}

// history is what was done to a register, so that promises are held against all of it and not against what the register says of itself.
type history struct {
	prepared, accepted []api.Ballot
}

// take makes a step of a register, checks it against all that was done ahead of it, and answers the register behind it.
func (h *history) take(t *testing.T, r api.Register, s step) api.Register {
	t.Helper()
	got, err := s.do(r)
	want, wantErr := s.model(r)
	if !same(got, want) || err != wantErr {
		t.Fatalf("%v of %v: %v, %v, want %v, %v", s, r, got, err, want, wantErr)
	}
	if err != nil {
		return r
	}
	holdsOrder(t, r, got, nil)
	if again, ok := ballot.Take(ballot.Nums(got)); !same(again, got) || !ok {
		t.Fatalf("Take of Nums of %v: %v, %v", got, again, ok)
	}
	if !s.accepts {
		h.prepared = append(h.prepared, s.b)
		return got
	}
	for _, earlier := range slices.Concat(h.prepared, h.accepted) {
		if compare(s.b, earlier) < 0 {
			t.Fatalf("%v is accepted behind %v", s.b, earlier)
		}
	}
	h.accepted = append(h.accepted, s.b)
	return got
}

// P9.2 and P9.3: all rows of four calls, from the zero register on.
func TestAllRows(t *testing.T) {
	all := steps([]api.Ballot{none(), of(0, 0, 1), of(0, 1, 0), of(1, 0, 0), of(1, 0, 1), of(2, -1, 5), of(2, 0, 0)})
	const length = 4
	rows := 1
	for range length {
		rows *= len(all)
	}
	for code := range rows {
		var h history
		r := api.Register{}
		for range length {
			r = h.take(t, r, all[code%len(all)])
			code /= len(all)
		}
	}
}

// scramble is a number that looks like none: the same at each run.
func scramble(seed int) int {
	x := uint64(seed) * 0x9e3779b97f4a7c15
	x = (x ^ x>>30) * 0xbf58476d1ce4e5b9
	x = (x ^ x>>27) * 0x94d049bb133111eb
	return int((x ^ x>>31) >> 1)
}

// anyOf is one of a list's items, in an order that looks like none.
func anyOf[T any](list []T, seed int) T { return list[scramble(seed)%len(list)] }

// P9.2 and P9.3: long rows of calls with ballots and values of all sizes, from registers in form on.
func TestLongRows(t *testing.T) {
	parts, lengths := []int{-1, 0, 1, 2, 3, greatest}, []int{0, 1, most, most + 1}
	prepared, accepted := 0, 0
	for i, r := range slices.Repeat(sound(), 40) {
		var h history
		for j := range 60 {
			seed := (i*60 + j + 1) * 8
			r = h.take(t, r, step{
				accepts: scramble(seed)%2 == 0,
				// N rises along the row, so that calls aren't all stale in its latter half.
				b:     of(j/4+anyOf(parts, seed+1)%4, anyOf(parts, seed+2), anyOf(parts, seed+3)),
				value: count(j, anyOf(lengths, seed+4)),
			})
		}
		prepared, accepted = prepared+len(h.prepared), accepted+len(h.accepted)
	}
	if prepared < 1000 || accepted < 1000 {
		t.Error("too few calls were done:", prepared, accepted)
	}
}

// P9.3: behind a Prepare each lesser ballot is refused, and each other one accepted, whatever was accepted ahead of it.
func TestPrepareShutsOut(t *testing.T) {
	list := ballots(0, 1, 2, greatest)[1:]
	for i, b := range list {
		r, err := ballot.Prepare(api.Register{}, b)
		if i > 0 {
			earlier, _ := ballot.Accept(api.Register{}, list[i-1], []int{3})
			r, err = ballot.Prepare(earlier, b)
		}
		if err != nil {
			t.Fatal(b, err)
		}
		for j, other := range list {
			got, err := ballot.Accept(r, other, []int{4})
			if j < i && err != api.ErrStale {
				t.Errorf("%v is accepted behind Prepare of %v: %v, %v", other, b, got, err)
			}
			if j >= i && (err != nil || !same(got, register(other, other, 4))) {
				t.Errorf("%v isn't accepted behind Prepare of %v: %v, %v", other, b, got, err)
			}
		}
	}
}

// P9.1: Prepare leaves what is accepted as it is, however often it is asked.
func TestPrepareLeavesAccepted(t *testing.T) {
	for _, n := range []int{0, 1, 5, most} {
		r, err := ballot.Accept(api.Register{}, of(1, 2, 3), count(60, n))
		for i := range 50 {
			if err != nil || r.Accepted != of(1, 2, 3) || !slices.Equal(r.Value, count(60, n)) {
				t.Fatalf("behind %d ballots: %v, %v", i, r, err)
			}
			b := ballot.Next(r.Promised, i%3, i)
			r, err = ballot.Prepare(r, b)
			if r.Promised != b {
				t.Fatalf("%v isn't promised: %v", b, r)
			}
		}
	}
}

// roomy is a list within a longer one, whose other numbers are to stay.
func roomy(list []int) (whole, part []int) {
	whole = slices.Concat([]int{-77}, list, []int{-78, -79, -80, -81, -82, -83, -84, -85})
	return whole, whole[1 : 1+len(list)]
}

// scribble changes all numbers of a list, and those of its spare room.
func scribble(list []int) {
	list = list[:cap(list)]
	for i := range list {
		list[i] = -99
	}
}

// unshared makes a call with a list, and checks that neither the list nor what is around it is changed, and that the answered list shares no memory with it.
func unshared(t *testing.T, name string, list []int, call func(list []int) []int) {
	t.Helper()
	whole, part := roomy(list)
	was := slices.Clone(whole)
	got := call(part)
	if !slices.Equal(whole, was) {
		t.Errorf("%s of %v changed what is handed in to %v", name, list, whole)
	}
	want := slices.Clone(got)
	other := call(part)
	scribble(other)
	if !slices.Equal(whole, was) {
		t.Errorf("%s of %v answers what is handed in", name, list)
	}
	if !slices.Equal(got, want) {
		t.Errorf("%s of %v answers the same memory twice", name, list)
	}
	scribble(whole)
	if !slices.Equal(got, want) {
		t.Errorf("%s of %v keeps what is handed in", name, list)
	}
}

// P9.4, and rule 5: what is handed in is neither changed nor kept, and answers are new memory.
func TestAnswersAreNewMemory(t *testing.T) {
	one, two := of(1, 0, 0), of(2, 0, 0)
	for _, n := range []int{0, 1, 2, 5, most - 1, most} {
		value := count(10, n)
		unshared(t, "Prepare", value, func(list []int) []int {
			r, err := ballot.Prepare(register(one, one, list...), two)
			if err != nil || !slices.Equal(r.Value, list) {
				t.Fatal(r, err)
			}
			return r.Value
		})
		unshared(t, "Accept", value, func(list []int) []int {
			r, err := ballot.Accept(register(one, one, 5), one, list)
			if err != nil || !slices.Equal(r.Value, list) {
				t.Fatal(r, err)
			}
			return r.Value
		})
		unshared(t, "Accept in the place of a value", value, func(list []int) []int {
			r, err := ballot.Accept(register(one, one, list...), one, []int{1, 2, 3})
			if err != nil || !slices.Equal(r.Value, []int{1, 2, 3}) {
				t.Fatal(r, err)
			}
			return r.Value
		})
		unshared(t, "Nums", value, func(list []int) []int { return ballot.Nums(register(two, one, list...)) })
		unshared(t, "Take", ballot.Nums(register(two, one, value...)), func(list []int) []int {
			r, ok := ballot.Take(list)
			if !ok || !slices.Equal(r.Value, value) {
				t.Fatal(r, ok)
			}
			return r.Value
		})
	}
}

// Rules 2 and 5: a call that is refused changes nothing that is handed in, either.
func TestRefusedCallsChangeNothing(t *testing.T) {
	for _, r := range append(sound(), broken()...) {
		whole, part := roomy(r.Value)
		was := slices.Clone(whole)
		r.Value = part
		ballot.Good(r)
		for _, b := range append(asking(), wrong()...) {
			ballot.Prepare(r, b)
			ballot.Accept(r, b, part)
			ballot.Accept(register(of(1, 0, 0), of(1, 0, 0), 7), b, part)
		}
		ballot.Take(part)
		if !slices.Equal(whole, was) {
			t.Errorf("%v: what is handed in became %v", was, whole)
		}
	}
}

// Rule 4: nil and empty values mean the same.
func TestNilAndEmpty(t *testing.T) {
	one := of(1, 0, 0)
	for _, value := range [][]int{nil, {}} {
		for _, accepted := range []api.Ballot{none(), one} {
			r := api.Register{Promised: one, Accepted: accepted, Value: value}
			if !ballot.Good(r) {
				t.Error("Good", r)
			}
			expectPrepare(t, r, of(2, 0, 0), register(of(2, 0, 0), accepted), nil)
			expectAccept(t, r, one, value, register(one, one), nil)
			if got, ok := ballot.Take(ballot.Nums(r)); !same(got, r) || !ok {
				t.Error("Take of Nums", got, ok)
			}
		}
	}
}
