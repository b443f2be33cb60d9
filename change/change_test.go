package change_test

import (
	"math"
	"slices"
	"testing"

	"estuary/api"
	"estuary/ballot"
	"estuary/change"
)

const (
	least    = math.MinInt
	greatest = math.MaxInt
	most     = 32 // numbers of a value, as the chapter writes them
)

// The kinds of changes, by their numbers.
const (
	read = 1
	swap = 2
)

// of is the ballot with these parts.
func of(n, node, life int) api.Ballot { return api.Ballot{N: n, Node: node, Life: life} }

// accepted is a register that accepted a value in a ballot.
func accepted(b api.Ballot, value ...int) api.Register {
	return api.Register{Promised: b, Accepted: b, Value: value}
}

// count is so many numbers, which differ, from a first one on.
func count(first, n int) []int {
	list := make([]int, n)
	for i := range list {
		list[i] = first + i
	}
	return list
}

// with is a list with another number at a place.
func with(list []int, i, number int) []int {
	list = slices.Clone(list)
	list[i] = number
	return list
}

// lists is all lists of at most so many of some numbers.
func lists(longest int, numbers ...int) [][]int {
	all := [][]int{nil}
	for begin := 0; longest > 0; longest-- {
		end := len(all)
		for _, list := range all[begin:end] {
			for _, n := range numbers {
				all = append(all, append(slices.Clone(list), n))
			}
		}
		begin = end
	}
	return all
}

// alike tells by the chapter's words whether two values are the same numbers.
func alike(a, b []int) bool {
	if len(a) != len(b) {
		return false
	}
	for i := range a {
		if a[i] != b[i] {
			return false
		}
	}
	return true
}

// check is Check by the chapter's words.
func check(c api.Change) error {
	switch {
	case c.Kind != read && c.Kind != swap:
		return api.ErrForm
	case len(c.Old) > most || len(c.New) > most:
		return api.ErrForm
	case c.Kind == read && len(c.Old)+len(c.New) > 0:
		return api.ErrForm
	}
	return nil
}

// do is Do by the chapter's words.
func do(c api.Change, value []int) ([]int, error) {
	if err := check(c); err != nil {
		return value, err
	}
	if c.Kind == swap && !alike(value, c.Old) {
		return value, api.ErrStale
	}
	if c.Kind == swap {
		return c.New, nil
	}
	return value, nil
}

// expectDo checks what Do answers.
func expectDo(t *testing.T, c api.Change, value, want []int, wantErr error) {
	t.Helper()
	if got, err := change.Do(c, value); !alike(got, want) || err != wantErr {
		t.Errorf("Do(%v, %v): %v, %v, want %v, %v", c, value, got, err, want, wantErr)
	}
}

// expectCheck checks what Check answers, and that Do answers it, too, with the value as it was.
func expectCheck(t *testing.T, c api.Change, want error) {
	t.Helper()
	if err := change.Check(c); err != want {
		t.Errorf("Check of kind %d, with %d and %d numbers: %v, want %v", c.Kind, len(c.Old), len(c.New), err, want)
	}
	if want == nil {
		return
	}
	for _, value := range [][]int{nil, {5}, c.Old, c.New, count(0, most+1)} {
		expectDo(t, c, value, value, want)
	}
}

// expectNewest checks what Newest answers.
func expectNewest(t *testing.T, want []int, list ...api.Register) {
	t.Helper()
	if got := change.Newest(list...); !alike(got, want) {
		t.Errorf("Newest(%v): %v, want %v", list, got, want)
	}
}

// P10.1: the chapter's examples.
func TestExamples(t *testing.T) {
	expectDo(t, change.Swap(nil, []int{5}), nil, []int{5}, nil)
	expectDo(t, change.Swap(nil, []int{6}), []int{5}, []int{5}, api.ErrStale)
	expectDo(t, change.Read(), []int{5}, []int{5}, nil)
}

// P10.1: the kinds and the errors have the numbers that the document gives them.
func TestNumbers(t *testing.T) {
	if c := change.Read(); c.Kind != read || api.ChRead != read {
		t.Error(c)
	}
	if c := change.Swap(nil, nil); c.Kind != swap || api.ChSwap != swap {
		t.Error(c)
	}
	if _, err := change.Do(api.Change{}, nil); err != api.Errno(2) {
		t.Error(err)
	}
	if _, err := change.Do(change.Swap(nil, nil), []int{1}); err != api.Errno(11) {
		t.Error(err)
	}
}

// kinds is both kinds, and kinds that are neither.
func kinds() []int {
	return []int{read, swap, 0, 3, 4, -1, -2, 1 << 8, 1<<8 + 1, 1<<8 + 2, 1<<32 + 1, 1<<32 + 2, least, least + 1, least + 2, greatest}
}

// P10.1: Check at all kinds, and at all lengths up to some beyond the most and at a great one.
func TestCheckByKindAndLength(t *testing.T) {
	lengths := append(count(0, most+4), 64, 1000)
	for _, kind := range kinds() {
		for _, old := range lengths {
			for _, new := range lengths {
				c := api.Change{Kind: kind, Old: count(1, old), New: count(7, new)}
				expectCheck(t, c, check(c))
			}
		}
	}
}

// P10.1: Check at written changes.
func TestCheckOfWrittenCases(t *testing.T) {
	full, over := count(-3, most), count(-3, most+1)
	for _, c := range []api.Change{
		{Kind: read}, {Kind: read, Old: []int{}, New: []int{}}, {Kind: read, New: make([]int, 0, 40)},
		{Kind: swap}, {Kind: swap, Old: []int{}}, {Kind: swap, Old: full}, {Kind: swap, New: full}, {Kind: swap, Old: full, New: full},
		{Kind: swap, Old: []int{0}, New: []int{0}}, {Kind: swap, Old: []int{least}, New: []int{greatest}},
		{Kind: swap, Old: make([]int, 3, 100), New: make([]int, 0, 100)},
	} {
		expectCheck(t, c, nil)
	}
	for _, c := range []api.Change{
		{}, {Old: []int{1}, New: []int{2}}, {Kind: 3}, {Kind: 3, Old: []int{1}}, {Kind: -1}, {Kind: least}, {Kind: greatest},
		{Kind: read, Old: []int{0}}, {Kind: read, New: []int{0}}, {Kind: read, Old: []int{1}, New: []int{1}},
		{Kind: read, Old: full}, {Kind: read, New: full}, {Kind: read, Old: over}, {Kind: read, New: over},
		{Kind: swap, Old: over}, {Kind: swap, New: over}, {Kind: swap, Old: over, New: over},
		{Kind: swap, Old: full, New: over}, {Kind: swap, Old: over, New: full},
	} {
		expectCheck(t, c, api.ErrForm)
	}
}

// P10.1: a read leaves every value, also one that is longer than a register's.
func TestDoOfReads(t *testing.T) {
	for n := range 3 * most {
		expectDo(t, change.Read(), count(-20, n), count(-20, n), nil)
	}
	expectDo(t, change.Read(), nil, nil, nil)
	expectDo(t, change.Read(), []int{least, 0, greatest}, []int{least, 0, greatest}, nil)
}

// P10.1: swaps at each length of a value, of Old that is the value, and of Old that differs from it in length or in one number.
func TestDoOfSwapsByLength(t *testing.T) {
	for n := range most + 1 {
		old := count(100, n)
		for _, new := range [][]int{nil, {1}, old, count(200, n), count(300, most)} {
			c := change.Swap(old, new)
			expectDo(t, c, slices.Clone(old), new, nil)
			longer := append(slices.Clone(old), 0)
			expectDo(t, c, longer, longer, api.ErrStale)
			longer = append([]int{100}, old...)
			expectDo(t, c, longer, longer, api.ErrStale)
			for i := range n {
				expectDo(t, c, old[:i], old[:i], api.ErrStale)
				expectDo(t, c, old[i+1:], old[i+1:], api.ErrStale)
				for _, number := range []int{old[i] + 1, -old[i], old[i] + 1<<32, 0, least, greatest} {
					other := with(old, i, number)
					expectDo(t, c, other, other, api.ErrStale)
				}
			}
		}
	}
}

// P10.1: swaps at written values: of none, into none, in another order, and of the value New.
func TestDoOfWrittenSwaps(t *testing.T) {
	expectDo(t, change.Swap(nil, nil), nil, nil, nil)
	expectDo(t, change.Swap(nil, nil), []int{0}, []int{0}, api.ErrStale)
	expectDo(t, change.Swap([]int{0}, nil), nil, nil, api.ErrStale)
	expectDo(t, change.Swap([]int{0}, nil), []int{0}, nil, nil)
	expectDo(t, change.Swap([]int{5}, nil), []int{5}, nil, nil)
	expectDo(t, change.Swap([]int{5}, []int{6}), []int{6}, []int{6}, api.ErrStale)
	expectDo(t, change.Swap([]int{5}, []int{5}), []int{5}, []int{5}, nil)
	expectDo(t, change.Swap([]int{1, 2}, []int{3}), []int{2, 1}, []int{2, 1}, api.ErrStale)
	expectDo(t, change.Swap([]int{1, 2}, []int{3}), []int{1, 2}, []int{3}, nil)
	expectDo(t, change.Swap([]int{least, greatest}, []int{greatest, least}), []int{least, greatest}, []int{greatest, least}, nil)
	expectDo(t, change.Swap(nil, count(0, most)), nil, count(0, most), nil)
	// No Old in form is as long as this value.
	expectDo(t, change.Swap(count(0, most), nil), count(0, most+1), count(0, most+1), api.ErrStale)
}

// P10.1, and rule 2: what isn't in form is told ahead of what is stale, also where the value is Old.
func TestFormAheadOfStale(t *testing.T) {
	over := count(0, most+1)
	for _, c := range []api.Change{
		change.Swap(over, nil), change.Swap(over, []int{1}), change.Swap([]int{9}, over), change.Swap(nil, over), change.Swap(over, over),
		{Kind: 0, Old: []int{9}, New: []int{1}}, {Kind: 3, Old: []int{9}, New: []int{1}}, {Kind: read, Old: []int{9}}, {Kind: read, New: []int{9}},
	} {
		for _, value := range [][]int{nil, {9}, {8}, {1}, over, count(50, 1000)} {
			expectDo(t, c, value, value, api.ErrForm)
		}
	}
}

// P10.1: Do against the model, at all short lists of a few numbers.
func TestDoAgainstModel(t *testing.T) {
	all := lists(3, -1, 0, 1)
	for _, kind := range []int{0, read, swap, 3} {
		for _, old := range all {
			for _, new := range all {
				c := api.Change{Kind: kind, Old: old, New: new}
				for _, value := range all {
					want, wantErr := do(c, value)
					expectDo(t, c, value, want, wantErr)
				}
			}
		}
	}
}

// P10.1: what Read and Swap answer, also of lists that are too long.
func TestReadAndSwap(t *testing.T) {
	if c := change.Read(); c.Kind != read || len(c.Old) != 0 || len(c.New) != 0 || change.Check(c) != nil {
		t.Error(c)
	}
	all := append(lists(2, least, 0, 7, greatest), count(3, most), count(3, most+1), count(3, 1000))
	for _, old := range all {
		for _, new := range all {
			c := change.Swap(old, new)
			if c.Kind != swap || !alike(c.Old, old) || !alike(c.New, new) {
				t.Errorf("Swap(%v, %v): %v", old, new, c)
			}
			expectCheck(t, c, check(c))
		}
	}
}

// P10.1: no register, and registers of which no one's Accepted is above no ballot, whatever else they have.
func TestNewestOfNone(t *testing.T) {
	none := []api.Register{
		{},
		{Value: []int{}},
		{Promised: of(9, 9, 9)},
		{Value: []int{7}},
		{Promised: of(9, 9, 9), Value: []int{7}},
		accepted(of(-1, 0, 0), 7), accepted(of(-1, 9, 9), 7), accepted(of(0, -1, 0), 7), accepted(of(0, -1, 9), 7), accepted(of(0, 0, -1), 7), accepted(of(least, least, least), 7),
	}
	expectNewest(t, nil)
	expectNewest(t, nil, none...)
	for _, r := range none {
		expectNewest(t, nil, r)
		for _, s := range none {
			expectNewest(t, nil, r, s)
			expectNewest(t, []int{8}, r, accepted(of(0, 0, 1), 8), s)
		}
	}
}

// P10.1: one register's value, of each length, also of one that isn't in form.
func TestNewestOfOne(t *testing.T) {
	for _, b := range []api.Ballot{of(0, 0, 1), of(0, 1, 0), of(1, 0, 0), of(0, 1, -1), of(1, -1, -1), of(greatest, greatest, greatest)} {
		for n := range most + 3 {
			expectNewest(t, count(-9, n), accepted(b, count(-9, n)...))
			expectNewest(t, count(-9, n), api.Register{Accepted: b, Value: count(-9, n)})
		}
	}
}

// P10.1: what was accepted counts, not what is promised; a newest value of no numbers stands above an elder one.
func TestNewestOfWrittenCases(t *testing.T) {
	one, two := accepted(of(1, 0, 0), 1), accepted(of(2, 0, 0), 2)
	expectNewest(t, []int{2}, one, two)
	expectNewest(t, []int{2}, two, one)
	one.Promised = of(9, 9, 9)
	expectNewest(t, []int{2}, one, two)
	expectNewest(t, []int{2}, two, one)
	expectNewest(t, []int{2}, api.Register{Promised: of(9, 9, 9)}, two)
	expectNewest(t, nil, one, accepted(of(1, 0, 1)))
	expectNewest(t, nil, accepted(of(1, 0, 1)), one)
	expectNewest(t, []int{3, 4}, accepted(of(5, 1, 9), 9), accepted(of(5, 2, 0), 3, 4), accepted(of(4, 9, 9), 9))
}

// permute calls a function with each order of a list.
func permute(list []api.Register, ahead int, call func(list []api.Register)) {
	if ahead == len(list) {
		call(list)
		return
	}
	for i := ahead; i < len(list); i++ {
		list[ahead], list[i] = list[i], list[ahead]
		permute(list, ahead+1, call)
		list[ahead], list[i] = list[i], list[ahead]
	}
}

// P10.1: of several registers the one with the greatest ballot, in each order; each beginning of a rising list is tried.
func TestNewestOfEachOrder(t *testing.T) {
	rising := []api.Ballot{of(0, 0, 0), of(0, 0, greatest), of(0, 1, 0), of(1, 0, 3), of(1, 2, 0), of(2, 0, 0), of(greatest, 0, 0)}
	var list []api.Register
	for i, b := range rising {
		list = append(list, api.Register{Promised: of(20-i, 0, 0), Accepted: b})
		if i > 0 {
			list[i].Value = []int{i, -i}
		}
		permute(slices.Clone(list), 0, func(row []api.Register) { expectNewest(t, list[i].Value, row...) })
	}
}

// P10.1: of equal ones the first, wherever lesser ones stand.
func TestNewestOfEqualOnes(t *testing.T) {
	b := of(3, 2, 1)
	list := []api.Register{
		accepted(b, 1), accepted(b, 2), accepted(b), accepted(b, 1, 1),
		accepted(of(3, 2, 0), 8), accepted(of(3, 1, 9), 9), {},
	}
	permute(list, 0, func(row []api.Register) {
		first := slices.IndexFunc(row, func(r api.Register) bool { return r.Accepted == b })
		expectNewest(t, row[first].Value, row...)
	})
}

// P10.1: what a register accepts by layer 9's calls is what Newest tells of it.
func TestNewestOfAskedRegisters(t *testing.T) {
	elder, _ := ballot.Accept(api.Register{}, of(1, 4, 0), []int{1})
	newer, _ := ballot.Accept(elder, of(2, 3, 0), []int{2})
	asked, _ := ballot.Prepare(elder, of(7, 0, 0))
	empty, _ := ballot.Prepare(api.Register{}, of(8, 0, 0))
	permute([]api.Register{elder, newer, asked, empty}, 0, func(row []api.Register) { expectNewest(t, []int{2}, row...) })
	permute([]api.Register{elder, asked, empty}, 0, func(row []api.Register) { expectNewest(t, []int{1}, row...) })
	expectNewest(t, nil, empty, api.Register{})
}

// P10.1: Same at all pairs of short lists, both ways.
func TestSameOfAllPairs(t *testing.T) {
	all := lists(3, least, -1, 0, 1, greatest)
	for i, a := range all {
		for j, b := range all {
			if got := change.Same(a, b); got != (i == j) {
				t.Fatalf("Same(%v, %v): %v", a, b, got)
			}
			if !change.Same(a, slices.Clone(a)) {
				t.Fatalf("%v isn't the same as its copy", a)
			}
		}
	}
}

// P10.1: Same at lists of each length that differ in one number, or in their length alone.
func TestSameByLength(t *testing.T) {
	for n := range 3 * most {
		a := count(5, n)
		if !change.Same(a, count(5, n)) || !change.Same(a, a) {
			t.Errorf("%d numbers aren't the same", n)
		}
		longer := append(slices.Clone(a), 0)
		if change.Same(a, longer) || change.Same(longer, a) {
			t.Errorf("%d numbers are the same as one more", n)
		}
		for i := range n {
			b := with(a, i, a[i]+1<<32)
			if change.Same(a, b) || change.Same(b, a) {
				t.Errorf("of %d numbers the one at %d isn't held against the other", n, i)
			}
		}
	}
}

// P10.1, and rule 4: nil and empty lists mean the same, whatever room they have.
func TestNilAndEmpty(t *testing.T) {
	empty := [][]int{nil, {}, make([]int, 0, 5), count(1, 5)[:0], count(1, 5)[5:]}
	for _, a := range empty {
		for _, b := range empty {
			if !change.Same(a, b) || change.Same(a, []int{0}) || change.Same([]int{0}, b) {
				t.Errorf("Same(%v, %v)", a, b)
			}
			expectCheck(t, api.Change{Kind: read, Old: a, New: b}, nil)
			expectDo(t, api.Change{Kind: read, Old: a, New: b}, []int{5}, []int{5}, nil)
			expectDo(t, api.Change{Kind: read}, a, b, nil)
			expectDo(t, api.Change{Kind: swap, Old: a, New: []int{5}}, b, []int{5}, nil)
			expectDo(t, api.Change{Kind: swap, Old: []int{5}, New: a}, []int{5}, b, nil)
			expectDo(t, api.Change{Kind: swap, Old: a, New: b}, []int{5}, []int{5}, api.ErrStale)
			expectDo(t, api.Change{Kind: swap, Old: []int{5}, New: []int{6}}, a, b, api.ErrStale)
			expectNewest(t, b, accepted(of(1, 0, 0), a...))
		}
	}
}

// swapsDone does swaps of one Old into some values one behind the other, and answers how many were done, and the value then.
func swapsDone(t *testing.T, value, old []int, news [][]int) (int, []int) {
	t.Helper()
	done := 0
	for _, new := range news {
		got, err := change.Do(change.Swap(old, new), value)
		switch {
		case err == nil && alike(got, new):
			done++
		case err == api.ErrStale && alike(got, value):
		default:
			t.Fatalf("Do(Swap(%v, %v), %v): %v, %v", old, new, value, got, err)
		}
		value = got
	}
	return done, value
}

// P10.2: of swaps of one Old into unlike values the first alone is done, if the value is Old, and else none, in all rows of three.
func TestAtMostOneSwapIsDone(t *testing.T) {
	all := lists(2, 0, 1)
	for _, old := range all {
		unlike := slices.DeleteFunc(slices.Clone(all), func(new []int) bool { return alike(new, old) })
		for _, value := range all {
			for code := range len(unlike) * len(unlike) * len(unlike) {
				n := len(unlike)
				news := [][]int{unlike[code%n], unlike[code/n%n], unlike[code/n/n]}
				want, wantValue := 0, value
				if alike(value, old) {
					want, wantValue = 1, news[0]
				}
				if done, got := swapsDone(t, value, old, news); done != want || !alike(got, wantValue) {
					t.Fatalf("of %v swapped into %v from %v on %d are done: %v", old, news, value, done, got)
				}
			}
		}
	}
}

// P10.2: long rows of swaps into unlike values of all lengths, of an Old of each length, with reads and refused changes between them.
func TestAtMostOneOfLongRows(t *testing.T) {
	for n := range most + 1 {
		old := count(1000, n)
		value, done := slices.Clone(old), 0
		for i := range 2 * most {
			new := count(i, i%(most+1))
			if n == 0 && len(new) == 0 {
				new = []int{-1}
			}
			for _, c := range []api.Change{change.Read(), {Kind: 3, Old: value, New: old}, {Kind: read, New: old}, change.Swap(count(0, most+1), old)} {
				got, err := change.Do(c, value)
				if !alike(got, value) || err != check(c) {
					t.Fatalf("Do(%v, %v): %v, %v", c, value, got, err)
				}
				value = got
			}
			got, err := change.Do(change.Swap(old, new), value)
			if err == nil {
				done++
			}
			value = got
		}
		if done != 1 {
			t.Errorf("of an Old of %d numbers %d swaps are done", n, done)
		}
	}
}

// P10.2: where a New is the Old, that swap is done, and another one behind it.
func TestSwapsIntoOld(t *testing.T) {
	for _, old := range [][]int{nil, {5}, count(0, most)} {
		done, value := swapsDone(t, old, old, [][]int{old, old, {6}, old, {7}})
		if done != 3 || !alike(value, []int{6}) {
			t.Errorf("of %v: %d, %v", old, done, value)
		}
	}
}

// roomy is a list within a longer one, whose other numbers are to stay.
func roomy(list []int) (whole, part []int) {
	whole = slices.Concat([]int{-77}, list, []int{-78, -79, -80, -81, -82, -83, -84, -85})
	return whole, whole[1 : 1+len(list)]
}

// scribble changes all numbers of a list, and those of its spare room.
func scribble(list []int) {
	list = list[:cap(list)]
	for i := range list {
		list[i] = -99
	}
}

// unshared makes a call with a list, and checks that neither the list nor what is around it is changed, that the answered lists share no memory with it, and no two of them any.
func unshared(t *testing.T, name string, list []int, call func(list []int) [][]int) {
	t.Helper()
	whole, part := roomy(list)
	was := slices.Clone(whole)
	got := call(part)
	if !alike(whole, was) {
		t.Errorf("%s of %v changed what is handed in to %v", name, list, whole)
	}
	want := make([][]int, len(got))
	for i := range got {
		want[i] = slices.Clone(got[i])
	}
	for _, other := range call(part) {
		scribble(other)
	}
	if !alike(whole, was) {
		t.Errorf("%s of %v answers what is handed in", name, list)
	}
	scribble(whole)
	for i := range got {
		if !alike(got[i], want[i]) {
			t.Errorf("%s of %v keeps what is handed in, or answers one memory twice", name, list)
		}
		scribble(got[i])
	}
}

// doing is a call of Do, which is to answer a list with an error.
func doing(t *testing.T, want []int, wantErr error, c api.Change, value []int) [][]int {
	t.Helper()
	expectDo(t, c, value, want, wantErr)
	got, _ := change.Do(c, value)
	return [][]int{got}
}

// P10.3: what Do is given is neither changed nor kept, with an error and without one, and its answer is new memory.
func TestDoAnswersNewMemory(t *testing.T) {
	for _, n := range []int{0, 1, 2, 5, most - 1, most} {
		unshared(t, "Do of a read", count(10, n), func(list []int) [][]int { return doing(t, list, nil, change.Read(), list) })
		unshared(t, "Do of a swap into a list", count(10, n), func(list []int) [][]int {
			return doing(t, list, nil, api.Change{Kind: swap, Old: []int{3}, New: list}, []int{3})
		})
		unshared(t, "Do of a swap of a list", count(10, n), func(list []int) [][]int {
			return doing(t, []int{1, 2}, nil, api.Change{Kind: swap, Old: list, New: []int{1, 2}}, list)
		})
		unshared(t, "Do of a swap of a list into it", count(10, n), func(list []int) [][]int {
			return doing(t, list, nil, api.Change{Kind: swap, Old: list, New: list}, list)
		})
		unshared(t, "Do of a stale swap", count(10, n), func(list []int) [][]int {
			return doing(t, list, api.ErrStale, api.Change{Kind: swap, Old: []int{3}, New: []int{4}}, list)
		})
		unshared(t, "Do of a stale swap of a list", count(10, n), func(list []int) [][]int {
			return doing(t, []int{3}, api.ErrStale, api.Change{Kind: swap, Old: list, New: list}, []int{3})
		})
		unshared(t, "Do of another kind", count(10, n), func(list []int) [][]int {
			return doing(t, list, api.ErrForm, api.Change{Kind: 3, Old: list, New: list}, list)
		})
		unshared(t, "Do of what is too long", count(10, most+1+n), func(list []int) [][]int {
			return doing(t, list, api.ErrForm, api.Change{Kind: swap, Old: list, New: list}, list)
		})
	}
}

// P10.3: the other calls, too, neither change nor keep what they are given, and answer new memory.
func TestOthersAnswerNewMemory(t *testing.T) {
	for _, n := range []int{0, 1, 2, 5, most, most + 1} {
		unshared(t, "Swap", count(10, n), func(list []int) [][]int {
			c := change.Swap(list, []int{1, 2})
			return [][]int{c.Old, c.New}
		})
		unshared(t, "Swap of a list into it", count(10, n), func(list []int) [][]int {
			c := change.Swap(list, list)
			return [][]int{c.New, c.Old}
		})
		unshared(t, "Newest of one", count(10, n), func(list []int) [][]int {
			return [][]int{change.Newest(accepted(of(1, 0, 0), list...))}
		})
		unshared(t, "Newest of several", count(10, n), func(list []int) [][]int {
			return [][]int{change.Newest(accepted(of(1, 0, 0), 8), accepted(of(2, 0, 0), list...), accepted(of(2, 0, 0), list...))}
		})
		unshared(t, "Check", count(10, n), func(list []int) [][]int {
			change.Check(api.Change{Kind: swap, Old: list, New: list})
			change.Check(api.Change{Kind: read, Old: list})
			return nil
		})
		unshared(t, "Same", count(10, n), func(list []int) [][]int {
			change.Same(list, list)
			change.Same(list, []int{9, 8})
			return nil
		})
	}
}

// P10.3: Newest leaves the list of registers as it is, and the room behind it.
func TestNewestLeavesTheList(t *testing.T) {
	whole := []api.Register{accepted(of(2, 0, 0), 2), accepted(of(3, 0, 0), 3), accepted(of(1, 0, 0), 1), accepted(of(9, 0, 0), 9)}
	was := slices.Clone(whole)
	expectNewest(t, []int{3}, whole[:3]...)
	for i, r := range whole {
		if r.Promised != was[i].Promised || r.Accepted != was[i].Accepted || !alike(r.Value, []int{was[i].Accepted.N}) {
			t.Errorf("the register at %d became %v", i, r)
		}
	}
}
