package place_test

import (
	"math"
	"math/big"
	"slices"
	"testing"

	"estuary/api"
	"estuary/place"
)

const (
	least    = math.MinInt
	greatest = math.MaxInt
)

// The model of these tests is package big: places as numbers without a bound, one behind the other without a gap.

func number(n int) *big.Int { return big.NewInt(int64(n)) }

// rank is a place's number: it rises by 1 from each place to the next one.
func rank(p api.Place) *big.Int {
	n := new(big.Int).Lsh(number(p.Win), 64)
	n.Add(n, number(p.Key))
	return n.Sub(n, number(least))
}

// wrapped is the number of 64 bits that a number comes to.
func wrapped(n *big.Int) int {
	rest := new(big.Int).Mod(n, new(big.Int).Lsh(number(1), 64)) // never below 0
	return int(rest.Uint64())
}

// window is a time's window by the model, 0 of a resolution that is none.
func window(time, r int) int {
	if r < 1 {
		return 0
	}
	// With a divisor above 0 the model's Div rounds down.
	return int(new(big.Int).Div(number(time), number(r)).Int64())
}

// shard is a key's shard by the model.
func shard(key, shards int) int {
	if shards < 1 {
		return 0
	}
	return int(new(big.Int).Mod(number(key), number(shards)).Int64())
}

// lane is a lane's number by the model.
func lane(i, shard, shards int) int {
	n := new(big.Int).Mul(number(i), number(shards))
	return wrapped(n.Add(n, number(shard)))
}

// model is an operation's cells by the model.
func model(o api.Op, res []int, shards int) []api.Id {
	var ids []api.Id
	for i, r := range res {
		ids = append(ids, api.Id{Lane: lane(i, shard(o.Key, shards), shards), Place: at(window(o.Time, r), o.Key)})
	}
	return ids
}

// covered is Covered by the model.
func covered(o api.Op, res []int, shards int, places []api.Place) bool {
	yes := len(res) > 0
	for _, id := range model(o, res, shards) {
		found := false
		for i, p := range places {
			found = found || i == id.Lane && rank(id.Place).Cmp(rank(p)) < 0
		}
		yes = yes && found
	}
	return yes
}

func at(win, key int) api.Place { return api.Place{Win: win, Key: key} }

func sample(time, key int) api.Op {
	return api.Op{Seq: 1, Kind: api.OpSample, Time: time, Key: key, Value: 7}
}

// edges is numbers near those that matter, rising, each once.
func edges() []int {
	list := []int{math.MinInt32, math.MaxInt32, 1 << 62, -1 << 62}
	for i := range 4 {
		list = append(list, least+i, greatest-i, i, -i)
	}
	for _, n := range []int{10, 60} {
		for near := -1; near <= 1; near++ {
			list = append(list, n+near, -n+near)
		}
	}
	slices.Sort(list)
	return slices.Compact(list)
}

// places is all places of a few windows and keys, at both ends and around 0.
func places() []api.Place {
	few := []int{least, least + 1, -2, -1, 0, 1, 2, greatest - 1, greatest}
	var list []api.Place
	for _, win := range few {
		for _, key := range few {
			list = append(list, at(win, key))
		}
	}
	return list
}

// shapes is rows of resolutions: none, within the limits, at their ends and outside of them.
func shapes() [][]int {
	return [][]int{
		nil,
		{},
		{1},
		{10},
		{10, 60},
		{1, 10, 60},
		{60, 10, 1},
		{10, 10, 10},
		{greatest},
		{greatest - 1, 1},
		{1, 2, greatest},
		{0},
		{-1},
		{least},
		{10, 0, 60},
		{least, -10, 0},
		{1, 2, 3, 4},
		{10, 10, 10, 10, 10, 10, 10, 10, 10, 10, 10, 10, 10},
	}
}

// manyShards is counts of shards: within the limits, outside of them, and such that lanes wrap around.
func manyShards() []int {
	return []int{1, 2, 3, 4, 5, 100, 0, -1, -2, -5, 1 << 31, 1 << 61, 1 << 62, 1<<62 + 1, greatest - 1, greatest, least, least + 1}
}

// P3.1: the least place, and that none is ahead of it.
func TestLeast(t *testing.T) {
	if got := place.Least(); got != at(least, least) {
		t.Fatal(got)
	}
	for _, p := range places() {
		if place.Less(p, place.Least()) || p != place.Least() && !place.Less(place.Least(), p) {
			t.Errorf("%v is ahead of the least place", p)
		}
	}
}

// P3.1: by window, then by key.
func TestLessOfWrittenCases(t *testing.T) {
	for _, c := range []struct {
		a, b api.Place
		want bool
	}{
		{at(1, 9), at(2, -9), true},
		{at(2, -9), at(1, 9), false},
		{at(1, 1), at(1, 2), true},
		{at(1, 2), at(1, 1), false},
		{at(1, 1), at(1, 1), false},
		{at(-1, 5), at(0, 5), true},
		{at(0, -1), at(0, 0), true},
		{at(least, greatest), at(least+1, least), true},
		{at(least, 0), at(greatest, 0), true},
		{at(greatest, 0), at(least, 0), false},
		{at(0, least), at(0, greatest), true},
		{at(0, greatest), at(0, least), false},
		{at(greatest, greatest), at(greatest, greatest), false},
		{at(least, least), at(least, least), false},
	} {
		if got := place.Less(c.a, c.b); got != c.want {
			t.Errorf("Less(%v, %v): %v", c.a, c.b, got)
		}
	}
}

// P3.1 and P3.2: places are ordered as their numbers are.
func TestLessIsTheOrderOfRanks(t *testing.T) {
	for _, a := range places() {
		for _, b := range places() {
			if got, want := place.Less(a, b), rank(a).Cmp(rank(b)) < 0; got != want {
				t.Fatalf("Less(%v, %v): %v", a, b, got)
			}
		}
	}
}

// P3.2: a strict order of all places: none is ahead of itself, of two others just one is ahead, and what is ahead of one that is ahead is so, too.
func TestLessIsAStrictOrder(t *testing.T) {
	list := places()
	for _, a := range list {
		for _, b := range list {
			up, down := place.Less(a, b), place.Less(b, a)
			if up && down || (up || down) == (a == b) {
				t.Fatalf("%v and %v: %v, %v", a, b, up, down)
			}
			if !up {
				continue
			}
			for _, c := range list {
				if place.Less(b, c) && !place.Less(a, c) {
					t.Fatalf("%v, %v and %v don't rise", a, b, c)
				}
			}
		}
	}
}

// P3.1: from a place on, up to another one without it.
func TestWithin(t *testing.T) {
	a, b := at(1, 9), at(2, -9)
	for _, c := range []struct {
		p, from, to api.Place
		want        bool
	}{
		{a, a, b, true},
		{b, a, b, false},
		{at(1, 8), a, b, false},
		{at(1, 10), a, b, true},
		{at(2, -10), a, b, true},
		{a, a, a, false},
		{at(1, 10), b, a, false},
		{a, b, a, false},
		{b, b, a, false},
		{place.Least(), place.Least(), at(greatest, greatest), true},
		{at(greatest, greatest), place.Least(), at(greatest, greatest), false},
	} {
		if got := place.Within(c.p, c.from, c.to); got != c.want {
			t.Errorf("Within(%v, %v, %v): %v", c.p, c.from, c.to, got)
		}
	}
	for _, p := range places() {
		for _, from := range places() {
			for i, to := range places() {
				if i%4 != 0 && to != p && to != from {
					continue
				}
				want := !place.Less(p, from) && place.Less(p, to)
				if got := place.Within(p, from, to); got != want {
					t.Fatalf("Within(%v, %v, %v): %v", p, from, to, got)
				}
			}
		}
	}
}

// P3.1: the place behind, at a window's end, and of the greatest place.
func TestAfterOfWrittenCases(t *testing.T) {
	for _, c := range []struct {
		p, want api.Place
		ok      bool
	}{
		{at(3, 4), at(3, 5), true},
		{at(3, -1), at(3, 0), true},
		{at(3, least), at(3, least+1), true},
		{at(3, greatest-1), at(3, greatest), true},
		{at(3, greatest), at(4, least), true},
		{at(-1, greatest), at(0, least), true},
		{at(least, least), at(least, least+1), true},
		{at(least, greatest), at(least+1, least), true},
		{at(greatest-1, greatest), at(greatest, least), true},
		{at(greatest, least), at(greatest, least+1), true},
		{at(greatest, greatest-1), at(greatest, greatest), true},
		{at(greatest, greatest), at(greatest, greatest), false},
	} {
		if got, ok := place.After(c.p); got != c.want || ok != c.ok {
			t.Errorf("After(%v): %v, %v", c.p, got, ok)
		}
	}
}

// P3.2: After's is the very next place: none lies between, and of the greatest one there is none behind.
func TestAfterIsTheVeryNext(t *testing.T) {
	for _, p := range places() {
		next, ok := place.After(p)
		if !ok {
			if p != at(greatest, greatest) || next != p {
				t.Fatalf("After(%v): %v, %v", p, next, ok)
			}
			continue
		}
		if !place.Less(p, next) || new(big.Int).Sub(rank(next), rank(p)).Cmp(number(1)) != 0 {
			t.Fatalf("After(%v): %v", p, next)
		}
		for _, other := range places() {
			if place.Less(p, other) && place.Less(other, next) {
				t.Fatalf("%v lies between %v and %v", other, p, next)
			}
			if place.Within(other, p, next) != (other == p) {
				t.Fatalf("Within(%v, %v, %v)", other, p, next)
			}
		}
	}
}

// P3.1: a key modulo the shards, never below 0; 0 of shards below 1.
func TestShard(t *testing.T) {
	for _, c := range []struct{ key, shards, want int }{
		{5, 2, 1},
		{4, 4, 0},
		{-1, 4, 3},
		{-4, 4, 0},
		{-5, 4, 3},
		{least, 1, 0},
		{least, 3, 1},
		{least, 4, 0},
		{least, greatest, greatest - 1},
		{greatest, 4, 3},
		{greatest, greatest, 0},
		{-1, greatest, greatest - 1},
		{5, 0, 0},
		{5, -1, 0},
		{-5, -3, 0},
		{least, -1, 0},
		{least, least, 0},
		{greatest, least, 0},
	} {
		if got := place.Shard(c.key, c.shards); got != c.want {
			t.Errorf("Shard(%d, %d): %d, want %d", c.key, c.shards, got, c.want)
		}
	}
	for _, key := range edges() {
		for _, shards := range append(edges(), manyShards()...) {
			if got, want := place.Shard(key, shards), shard(key, shards); got != want {
				t.Fatalf("Shard(%d, %d): %d, want %d", key, shards, got, want)
			}
		}
	}
}

// P3.1: i times the shards, plus the shard, wrapping around.
func TestLane(t *testing.T) {
	for _, c := range []struct{ i, shard, shards, want int }{
		{0, 0, 1, 0},
		{2, 3, 4, 11},
		{1, 1, 2, 3},
		{0, 5, 2, 5},
		{2, 1, 0, 1},
		{2, 1, -3, -5},
		{-1, 0, 4, -4},
		{1, 1, greatest, least},
		{2, 0, greatest, -2},
		{2, 3, 1 << 62, least + 3},
		{4, 3, 1 << 62, 3},
		{2, 1, least, 1},
		{-1, 0, least, least},
		{greatest, greatest, greatest, least},
	} {
		if got := place.Lane(c.i, c.shard, c.shards); got != c.want {
			t.Errorf("Lane(%d, %d, %d): %d, want %d", c.i, c.shard, c.shards, got, c.want)
		}
	}
	for _, i := range edges() {
		for _, shard := range edges() {
			for _, shards := range manyShards() {
				if got, want := place.Lane(i, shard, shards), lane(i, shard, shards); got != want {
					t.Fatalf("Lane(%d, %d, %d): %d, want %d", i, shard, shards, got, want)
				}
			}
		}
	}
}

// P3.1: within the limits each resolution and shard has a lane of its own, and no number is left out.
func TestLanesAreEachOnce(t *testing.T) {
	for res := 1; res <= api.MaxRes; res++ {
		for shards := 1; shards <= api.MaxShards; shards++ {
			var got, want []int
			for i := range res {
				for s := range shards {
					want = append(want, len(got))
					got = append(got, place.Lane(i, s, shards))
				}
			}
			if !slices.Equal(got, want) {
				t.Errorf("%d resolutions, %d shards: %v", res, shards, got)
			}
		}
	}
}

// P3.1: the cells of written samples.
func TestIdsOfWrittenCases(t *testing.T) {
	for _, c := range []struct {
		o      api.Op
		res    []int
		shards int
		want   []api.Id
	}{
		{sample(-1, 5), []int{10, 60}, 2, []api.Id{{Lane: 1, Place: at(-1, 5)}, {Lane: 3, Place: at(-1, 5)}}},
		{sample(125, -1), []int{60, 10, 1}, 4, []api.Id{{Lane: 3, Place: at(2, -1)}, {Lane: 7, Place: at(12, -1)}, {Lane: 11, Place: at(125, -1)}}},
		{sample(125, 3), []int{10, 10}, 1, []api.Id{{Lane: 0, Place: at(12, 3)}, {Lane: 1, Place: at(12, 3)}}},
		{sample(125, 3), nil, 1, nil},
		{sample(125, 3), []int{0, -7, 10}, 1, []api.Id{{Lane: 0, Place: at(0, 3)}, {Lane: 1, Place: at(0, 3)}, {Lane: 2, Place: at(12, 3)}}},
		{sample(125, 3), []int{10, 60}, 0, []api.Id{{Lane: 0, Place: at(12, 3)}, {Lane: 0, Place: at(2, 3)}}},
		{sample(125, 3), []int{10, 60}, -2, []api.Id{{Lane: 0, Place: at(12, 3)}, {Lane: -2, Place: at(2, 3)}}},
		{sample(125, 3), []int{10, 60}, least, []api.Id{{Lane: 0, Place: at(12, 3)}, {Lane: least, Place: at(2, 3)}}},
		{sample(125, 3), []int{1, 10, 60}, greatest, []api.Id{{Lane: 3, Place: at(125, 3)}, {Lane: least + 2, Place: at(12, 3)}, {Lane: 1, Place: at(2, 3)}}},
		{sample(least, least), []int{1, 3, greatest}, 3, []api.Id{{Lane: 1, Place: at(least, least)}, {Lane: 4, Place: at(-3074457345618258603, least)}, {Lane: 7, Place: at(-2, least)}}},
		{sample(greatest, greatest), []int{1, greatest}, 2, []api.Id{{Lane: 1, Place: at(greatest, greatest)}, {Lane: 3, Place: at(1, greatest)}}},
	} {
		if got := place.Ids(c.o, c.res, c.shards); !slices.Equal(got, c.want) {
			t.Errorf("Ids(%v, %v, %d): %v, want %v", c.o, c.res, c.shards, got, c.want)
		}
	}
}

// P3.1: Ids against the model, for resolutions and shards within the limits and outside of them.
func TestIds(t *testing.T) {
	for _, res := range shapes() {
		for _, shards := range manyShards() {
			for _, time := range edges() {
				for _, key := range []int{least, least + 1, -5, -1, 0, 1, 6, greatest - 1, greatest} {
					o := sample(time, key)
					if got, want := place.Ids(o, res, shards), model(o, res, shards); !slices.Equal(got, want) {
						t.Fatalf("Ids(%v, %v, %d): %v, want %v", o, res, shards, got, want)
					}
				}
			}
		}
	}
}

// P3.1: of an operation its time and key matter alone.
func TestOtherFieldsDoNotMatter(t *testing.T) {
	res := []int{10, 60}
	want := []api.Id{{Lane: 1, Place: at(2, 1)}, {Lane: 3, Place: at(0, 1)}}
	for _, kind := range []int{0, api.OpSample, api.OpMark, 3, -1, least, greatest} {
		for _, n := range []int{least, -1, 0, 1, greatest} {
			o := api.Op{Seq: n, Kind: kind, Time: 25, Key: 1, Value: -n}
			if got := place.Ids(o, res, 2); !slices.Equal(got, want) {
				t.Errorf("%v: %v", o, got)
			}
			if !place.Covered(o, res, 2, []api.Place{{}, at(2, 2), {}, at(0, 2)}) || place.Covered(o, res, 2, []api.Place{{}, at(2, 2), {}, at(0, 1)}) {
				t.Errorf("%v: Covered", o)
			}
		}
	}
}

// P3.1: the place ahead of which all is closed, of written marks.
func TestClosedOfWrittenCases(t *testing.T) {
	for _, c := range []struct{ mark, r, win int }{
		{10, 10, 1},
		{9, 10, 0},
		{0, 10, 0},
		{-1, 10, -1},
		{-10, 10, -1},
		{-11, 10, -2},
		{7, 1, 7},
		{least, 1, least},
		{greatest, 1, greatest},
		{least, 3, -3074457345618258603},
		{greatest, greatest, 1},
		{greatest - 1, greatest, 0},
		{least, greatest, -2},
		{least + 1, greatest, -1},
		{7, 0, 0},
		{-7, -1, 0},
		{least, least, 0},
		{greatest, least, 0},
	} {
		if got := place.Closed(c.mark, c.r); got != at(c.win, least) {
			t.Errorf("Closed(%d, %d): %v, want window %d", c.mark, c.r, got, c.win)
		}
	}
	for _, mark := range edges() {
		for _, r := range edges() {
			if got := place.Closed(mark, r); got != at(window(mark, r), least) {
				t.Fatalf("Closed(%d, %d): %v", mark, r, got)
			}
		}
	}
}

// expectCovered holds what is covered against what is wanted.
func expectCovered(t *testing.T, o api.Op, res []int, shards int, places []api.Place, want bool) {
	t.Helper()
	if got := place.Covered(o, res, shards, places); got != want {
		t.Errorf("Covered(%v, %v, %d, %v): %v", o, res, shards, places, got)
	}
}

// P3.1: written cases of what is covered and what isn't.
func TestCoveredOfWrittenCases(t *testing.T) {
	o := sample(25, 1)
	two := []int{10, 60}
	last := at(greatest, greatest)
	expectCovered(t, o, two, 1, []api.Place{at(2, 2), at(0, 2)}, true)
	expectCovered(t, o, two, 1, []api.Place{at(2, 2), at(0, 1)}, false)         // the cell itself isn't ahead
	expectCovered(t, o, two, 1, []api.Place{at(2, 1), at(0, 2)}, false)         // of the first lane, too
	expectCovered(t, o, two, 1, []api.Place{at(3, least), at(1, least)}, true)  // by windows
	expectCovered(t, o, two, 1, []api.Place{at(3, least), at(0, least)}, false) // the window has begun
	expectCovered(t, o, two, 1, []api.Place{at(2, 2)}, false)                   // no place of the second lane
	expectCovered(t, o, two, 1, nil, false)                                     // of none
	expectCovered(t, o, two, 1, []api.Place{}, false)
	expectCovered(t, o, []int{10, 60, 5}, 1, []api.Place{last, last}, false)
	expectCovered(t, o, two, 1, []api.Place{last, last, {}}, true) // lanes that it has no cell of don't matter
	expectCovered(t, o, nil, 1, []api.Place{last, last}, false)    // no cell
	expectCovered(t, o, []int{}, 1, nil, false)
	expectCovered(t, o, two, 2, []api.Place{{}, at(2, 2), {}, at(0, 2)}, true) // shard 1 of 2
	expectCovered(t, o, two, 2, []api.Place{last, {}, last, {}}, false)        // the other shard's
	expectCovered(t, sample(25, -1), []int{10}, 4, []api.Place{{}, {}, {}, at(2, 0)}, true)
	expectCovered(t, sample(25, -1), []int{10}, 4, []api.Place{last, last, last, at(2, -1)}, false)
}

// P3.1: at the ends of numbers, and where lanes are no places'.
func TestCoveredAtTheEdges(t *testing.T) {
	last := at(greatest, greatest)
	expectCovered(t, sample(greatest, greatest), []int{1}, 1, []api.Place{last}, false) // nothing is behind the greatest place
	expectCovered(t, sample(greatest, greatest-1), []int{1}, 1, []api.Place{last}, true)
	expectCovered(t, sample(greatest, greatest), []int{2}, 1, []api.Place{last}, true)
	expectCovered(t, sample(least, least), []int{1}, 1, []api.Place{place.Least()}, false)
	expectCovered(t, sample(least, least), []int{1}, 1, []api.Place{at(least, least+1)}, true)
	expectCovered(t, sample(25, 1), []int{0, -10}, 1, []api.Place{at(0, 2), at(0, 2)}, true) // window 0 of a resolution that is none
	expectCovered(t, sample(25, 1), []int{0, least}, 1, []api.Place{at(0, 2), at(0, 1)}, false)
	expectCovered(t, sample(25, 1), []int{10, 60}, 0, []api.Place{at(2, 2)}, true) // both cells are of lane 0
	expectCovered(t, sample(25, 1), []int{60, 10}, 0, []api.Place{at(0, 2)}, false)
	expectCovered(t, sample(25, 1), []int{10}, -1, []api.Place{last}, true)
	expectCovered(t, sample(25, 1), []int{10, 60}, -1, []api.Place{last, last}, false) // a lane below 0
	expectCovered(t, sample(25, 1), []int{10, 60}, least, []api.Place{last, last}, false)
	expectCovered(t, sample(25, 1), []int{10, 60, 1}, greatest, []api.Place{last, last, last}, false) // wrapped around
	expectCovered(t, sample(25, 0), []int{10, 60, 1, 2, 3}, 1<<62, []api.Place{last, last}, false)
}

// P3.1: Covered against the model, at cells' own places and next to them.
func TestCovered(t *testing.T) {
	yes := 0
	for _, res := range shapes() {
		for _, shards := range manyShards() {
			for _, o := range []api.Op{sample(25, 1), sample(-1, 5), sample(least, least), sample(greatest, greatest), sample(0, -2)} {
				for _, rows := range rowsNear(o, res, shards) {
					want := covered(o, res, shards, rows)
					if got := place.Covered(o, res, shards, rows); got != want {
						t.Fatalf("Covered(%v, %v, %d, %v): %v", o, res, shards, rows, got)
					}
					if want {
						yes++
					}
				}
			}
		}
	}
	if yes < 100 {
		t.Error("too few were covered:", yes)
	}
}

// rowsNear is rows of places: just behind an operation's cells, at one of them, without a lane, and without any.
func rowsNear(o api.Op, res []int, shards int) [][]api.Place {
	behind := make([]api.Place, 15)
	rows := [][]api.Place{nil, behind}
	for _, id := range model(o, res, shards) {
		if id.Lane < 0 || id.Lane >= len(behind) {
			continue
		}
		if next, _ := place.After(id.Place); place.Less(behind[id.Lane], next) || behind[id.Lane] == (api.Place{}) {
			behind[id.Lane] = next
		}
	}
	for _, id := range model(o, res, shards) {
		if id.Lane < 0 || id.Lane >= len(behind) {
			continue
		}
		short := slices.Clone(behind)
		short[id.Lane] = id.Place
		rows = append(rows, short, behind[:id.Lane], behind[:id.Lane+1])
	}
	return rows
}

// P3.3: samples of one key and one window of a resolution have the same cell there; others have other cells.
func TestSamplesOfOneCell(t *testing.T) {
	keys := []int{least, -5, -1, 0, 1, 6, greatest}
	for _, res := range [][]int{{1, 10, 60}, {greatest, 2, 3}, {60}} {
		for _, shards := range []int{1, 2, 3, 4} {
			for _, a := range edges() {
				for _, b := range edges() {
					expectSharing(t, sample(a, 5), sample(b, 5), res, shards)
				}
			}
			for _, a := range keys {
				for _, b := range keys {
					expectSharing(t, sample(-1, a), sample(-2, b), res, shards)
				}
			}
		}
	}
}

// expectSharing holds that two samples share their cell just at the resolutions where they have one key and one window.
func expectSharing(t *testing.T, a, b api.Op, res []int, shards int) {
	t.Helper()
	b.Seq, b.Value = 9, -9
	x, y := place.Ids(a, res, shards), place.Ids(b, res, shards)
	for i, r := range res {
		want := a.Key == b.Key && window(a.Time, r) == window(b.Time, r)
		if (x[i] == y[i]) != want {
			t.Fatalf("%v and %v at %d: %v and %v", a, b, r, x[i], y[i])
		}
	}
}

// P3.3: a whole window, time by time, below 0, around it and above.
func TestCellsOfAWindow(t *testing.T) {
	for _, r := range []int{1, 2, 7, 10} {
		for win := -3; win <= 3; win++ {
			for time := win * r; time < (win+1)*r; time++ {
				want := []api.Id{{Lane: 2, Place: at(win, -1)}}
				if got := place.Ids(sample(time, -1), []int{r}, 3); !slices.Equal(got, want) {
					t.Errorf("time %d at %d: %v", time, r, got)
				}
			}
		}
	}
}

// P3.3: a sample whose time isn't below the mark lies in no place that is closed by it, whatever the resolution and the key.
func TestNothingClosedIsMissed(t *testing.T) {
	for _, r := range append(edges(), 1, 10, 60) {
		for _, mark := range edges() {
			end := place.Closed(mark, r)
			for _, time := range append(edges(), mark) {
				if time < mark {
					continue
				}
				for _, key := range []int{least, -1, 0, greatest} {
					id := place.Ids(sample(time, key), []int{r}, 4)[0]
					if place.Less(id.Place, end) {
						t.Fatalf("time %d, key %d isn't below the mark %d, and is closed at %d", time, key, mark, r)
					}
				}
			}
		}
	}
}

// P3.3: a mark closes every window that ends ahead of it, and no other one.
func TestWindowsThatAMarkCloses(t *testing.T) {
	for _, r := range []int{1, 2, 7, 10} {
		for mark := -35; mark <= 35; mark++ {
			for win := -40; win <= 40; win++ {
				for _, key := range []int{least, 0, greatest} {
					want := (win+1)*r <= mark
					if got := place.Less(at(win, key), place.Closed(mark, r)); got != want {
						t.Fatalf("mark %d, window %d of %d, key %d: closed %v", mark, win, r, key, got)
					}
				}
			}
		}
	}
}

// P3.3: the mark of the greatest time closes all windows but the last one.
func TestTheGreatestMark(t *testing.T) {
	for _, r := range []int{1, 2, 10, greatest - 1, greatest} {
		end := place.Closed(greatest, r)
		if win := window(greatest, r); !place.Less(at(win-1, greatest), end) || place.Less(at(win, least), end) {
			t.Errorf("at %d: %v", r, end)
		}
	}
}

// P3.4: what is covered stays so when places rise, one of them or all, by one or to the end.
func TestCoveredStaysCovered(t *testing.T) {
	res, shards := []int{1, 10}, 2
	few := []api.Place{place.Least(), at(-1, 3), at(-1, 4), at(0, least), at(0, greatest), at(3, 5), at(greatest, greatest)}
	ops := []api.Op{sample(-1, 3), sample(-1, 4), sample(0, 4), sample(25, 5), sample(least, least), sample(greatest, greatest)}
	kept := 0
	for _, o := range ops {
		ids := place.Ids(o, res, shards)
		for _, p := range few {
			for _, q := range few {
				low := make([]api.Place, 4)
				low[ids[0].Lane], low[ids[1].Lane] = p, q
				if !place.Covered(o, res, shards, low) {
					continue
				}
				for _, high := range raised(low, few) {
					kept++
					if !place.Covered(o, res, shards, high) {
						t.Fatalf("%v is covered by %v, not by %v", o, low, high)
					}
				}
			}
		}
	}
	if kept < 500 {
		t.Error("too few were covered:", kept)
	}
}

// raised is rows of places none of which is ahead of those that are given, and that row with more lanes.
func raised(low, to []api.Place) [][]api.Place {
	rows := [][]api.Place{append(slices.Clone(low), place.Least())}
	all := slices.Clone(low)
	for i, p := range low {
		next, _ := place.After(p)
		all[i] = next
		one := slices.Clone(low)
		one[i] = next
		rows = append(rows, one)
		for _, q := range to {
			if place.Less(p, q) {
				one := slices.Clone(low)
				one[i] = q
				rows = append(rows, one)
			}
		}
	}
	return append(rows, all)
}

// P3.4: a place that rises step by step covers a sample from behind its cell on, and ever after.
func TestCoveredFromItsCellOn(t *testing.T) {
	list := places()
	slices.SortFunc(list, func(a, b api.Place) int { return rank(a).Cmp(rank(b)) })
	for _, own := range list {
		o := sample(own.Win, own.Key)
		for _, p := range list {
			if got := place.Covered(o, []int{1}, 1, []api.Place{p}); got != (rank(own).Cmp(rank(p)) < 0) {
				t.Fatalf("the cell at %v, the place %v: %v", own, p, got)
			}
		}
		next, more := place.After(own)
		if got := place.Covered(o, []int{1}, 1, []api.Place{next}); got != more {
			t.Fatalf("the cell at %v, the place behind it: %v", own, got)
		}
	}
}

// P3.1, and rule 5: what is handed in stays as it is, its spare room included.
func TestArgumentsStay(t *testing.T) {
	res := []int{10, 60, 1, 2}
	rows := []api.Place{at(2, 2), at(0, 2), at(9, 9), at(8, 8)}
	wasRes, wasRows := slices.Clone(res), slices.Clone(rows)
	place.Ids(sample(25, 1), res[:2], 1)
	place.Covered(sample(25, 1), res[:2], 1, rows[:2])
	place.Covered(sample(25, 1), res[:3], 1, rows[:2])
	if !slices.Equal(res, wasRes) || !slices.Equal(rows, wasRows) {
		t.Error("changed:", res, rows)
	}
}

// P3.1, and rule 5: an answer is new memory.
func TestAnswersAreNewMemory(t *testing.T) {
	res := []int{10, 60}
	a, b := place.Ids(sample(25, 1), res, 1), place.Ids(sample(25, 1), res, 1)
	want := slices.Clone(b)
	clear(a)
	_ = append(a, api.Id{Lane: 9})
	clear(res)
	if !slices.Equal(b, want) || !slices.Equal(place.Ids(sample(25, 1), []int{10, 60}, 1), want) {
		t.Error("two answers share memory:", b)
	}
}

// P3.1, and rule 4: nil and empty lists mean the same.
func TestNilAndEmptyLists(t *testing.T) {
	for _, res := range [][]int{nil, {}} {
		for _, rows := range [][]api.Place{nil, {}, {at(greatest, greatest)}} {
			if len(place.Ids(sample(1, 1), res, 1)) != 0 || place.Covered(sample(1, 1), res, 1, rows) {
				t.Errorf("%v, %v: a cell of no resolution", res, rows)
			}
		}
	}
	for _, rows := range [][]api.Place{nil, {}} {
		if place.Covered(sample(1, 1), []int{10}, 1, rows) {
			t.Error("covered by no place")
		}
	}
}
