package cell_test

import (
	"math"
	"math/big"
	"slices"
	"testing"

	"estuary/api"
	"estuary/cell"
)

// sample is what One is given.
type sample struct {
	source int
	op     api.Op
}

func (s sample) cell() api.Cell { return cell.One(s.source, s.op) }

// order is the numbers by which samples are compared, the first one first.
func (s sample) order() []int { return []int{s.op.Time, s.source, s.op.Seq, s.op.Value} }

// wrapped is the wide number that a number comes to at 2^128.
func wrapped(n *big.Int) api.Wide {
	rest := new(big.Int).Mod(n, new(big.Int).Lsh(big.NewInt(1), 128)) // never below 0
	hi := new(big.Int).Rsh(rest, 64).Uint64()
	lo := new(big.Int).And(rest, new(big.Int).SetUint64(math.MaxUint64)).Uint64()
	return api.Wide{Hi: int(hi), Lo: uint(lo)}
}

// model is the cell of samples, worked out from all of them at once.
func model(samples []sample) api.Cell {
	var c api.Cell
	if len(samples) == 0 {
		return c
	}
	var values []int
	sum := new(big.Int)
	for _, s := range samples {
		value := big.NewInt(int64(s.op.Value))
		values = append(values, s.op.Value)
		sum.Add(sum, value)
		c.Hist[value.BitLen()]++
	}
	last := slices.MaxFunc(samples, func(a, b sample) int { return slices.Compare(a.order(), b.order()) })
	c.Count = len(samples)
	c.Sum = wrapped(sum)
	c.Min, c.Max = slices.Min(values), slices.Max(values)
	c.Last = api.Last{Time: last.op.Time, Source: last.source, Seq: last.op.Seq, Value: last.op.Value}
	return c
}

// cellsOf is the cells of samples, one by one.
func cellsOf(samples []sample) []api.Cell {
	var cells []api.Cell
	for _, s := range samples {
		cells = append(cells, s.cell())
	}
	return cells
}

// scramble is the next number of a row that is the same in every run.
func scramble(x *uint64) uint64 {
	*x = *x*6364136223846793005 + 1442695040888963407
	return *x >> 33
}

// values is numbers of each count of bits, the least and the greatest one among them.
func values() []int {
	list := []int{0, math.MaxInt, math.MinInt, math.MinInt + 1}
	for shift := range 63 {
		list = append(list, 1<<shift, -1<<shift, 1<<shift-1)
	}
	return list
}

// samples is n samples, many of them alike in time, source or number, some alike in all.
func samples(seed uint64, n int) []sample {
	few := []int{-1, 0, 1, math.MinInt, math.MaxInt}
	many := values()
	x := seed
	pick := func(list []int) int { return list[scramble(&x)%uint64(len(list))] }
	var list []sample
	for range n {
		op := api.Op{Seq: pick(few), Time: pick(few), Value: pick(many), Key: pick(few), Kind: pick(few)}
		list = append(list, sample{pick(few), op})
		if scramble(&x)%8 == 0 {
			list = append(list, list[0])
		}
	}
	return list
}

// permutations hands out each order of a few cells.
func permutations(cells []api.Cell, each func([]api.Cell)) {
	var swap func(int)
	swap = func(i int) {
		if i == len(cells) {
			each(cells)
			return
		}
		for j := i; j < len(cells); j++ {
			cells[i], cells[j] = cells[j], cells[i]
			swap(i + 1)
			cells[i], cells[j] = cells[j], cells[i]
		}
	}
	swap(0)
}

// full is a cell with no field at 0, all places of Hist in use.
func full() api.Cell {
	c := api.Cell{Count: 1, Sum: api.Wide{Hi: -2, Lo: 3}, Min: -4, Max: 5, Last: api.Last{Time: 6, Source: -7, Seq: 8, Value: -9}}
	for place := range c.Hist {
		c.Hist[place] = 100 - 3*place
	}
	return c
}

// odd is cells that no samples come to.
func odd() []api.Cell {
	list := []api.Cell{full(), {Count: -1}, {Count: math.MinInt}, {Count: math.MaxInt}, {Min: 1}, {Max: -1}, {Min: 7, Max: -7},
		{Sum: api.Wide{Hi: 1}}, {Sum: api.Wide{Lo: 1}}, {Sum: api.Wide{Hi: math.MinInt, Lo: 1 << 63}}, {Sum: api.Wide{Hi: math.MaxInt, Lo: math.MaxUint}},
		{Last: api.Last{Time: -1}}, {Last: api.Last{Source: 1}}, {Last: api.Last{Seq: math.MinInt}}, {Last: api.Last{Value: math.MaxInt}}}
	for _, place := range []int{0, 1, 32, 63, 64} {
		for _, n := range []int{1, -1, math.MinInt, math.MaxInt} {
			var c api.Cell
			c.Hist[place] = n
			list = append(list, c)
		}
	}
	return list
}

// P2.1: the unit is all 0.
func TestUnit(t *testing.T) {
	if cell.Unit() != (api.Cell{}) {
		t.Error(cell.Unit())
	}
}

// P2.1: the cell of one sample, field by field.
func TestOneOfWrittenCases(t *testing.T) {
	got := cell.One(1, api.Op{Seq: 3, Time: 10, Value: -5})
	want := api.Cell{Count: 1, Sum: api.Wide{Hi: -1, Lo: math.MaxUint - 4}, Min: -5, Max: -5, Last: api.Last{Time: 10, Source: 1, Seq: 3, Value: -5}}
	want.Hist[3] = 1
	if got != want {
		t.Error(got)
	}
	least := cell.One(0, api.Op{Value: math.MinInt})
	if least.Hist[64] != 1 || least.Sum != (api.Wide{Hi: -1, Lo: 1 << 63}) || least.Min != math.MinInt || least.Max != math.MinInt {
		t.Error("the least number:", least)
	}
	greatest := cell.One(0, api.Op{Value: math.MaxInt})
	if greatest.Hist[63] != 1 || greatest.Sum != (api.Wide{Lo: math.MaxInt}) || greatest.Min != math.MaxInt || greatest.Max != math.MaxInt {
		t.Error("the greatest number:", greatest)
	}
	nought := cell.One(0, api.Op{})
	if nought.Count != 1 || nought.Hist[0] != 1 || nought == cell.Unit() {
		t.Error("a sample that is all 0:", nought)
	}
}

// P2.1: One at many samples, against the model.
func TestOne(t *testing.T) {
	for _, s := range samples(1, 2000) {
		if got, want := s.cell(), model([]sample{s}); got != want {
			t.Fatalf("One(%d, %v): %v, want %v", s.source, s.op, got, want)
		}
	}
	for _, value := range values() {
		s := sample{2, api.Op{Seq: 1, Time: 5, Value: value}}
		if got, want := s.cell(), model([]sample{s}); got != want {
			t.Errorf("One of value %d: %v, want %v", value, got, want)
		}
	}
}

// P2.1: of an operation its time, value and number matter alone.
func TestOneLooksAtNoOtherField(t *testing.T) {
	o := api.Op{Seq: 4, Kind: api.OpSample, Time: 7, Key: 1, Value: 9}
	want := cell.One(3, o)
	for _, kind := range []int{0, api.OpMark, -1, math.MaxInt} {
		for _, key := range []int{0, -1, math.MinInt} {
			o.Kind, o.Key = kind, key
			if got := cell.One(3, o); got != want {
				t.Errorf("kind %d, key %d: %v", kind, key, got)
			}
		}
	}
}

// P2.1: later is by time, then source, then number, then value.
func TestLater(t *testing.T) {
	few := []int{math.MinInt, -1, 0, 1, math.MaxInt}
	var list [][]int
	for _, time := range few {
		for _, source := range few {
			for _, seq := range few {
				for _, value := range few {
					list = append(list, []int{time, source, seq, value})
				}
			}
		}
	}
	for _, a := range list {
		for _, b := range list {
			x := api.Last{Time: a[0], Source: a[1], Seq: a[2], Value: a[3]}
			y := api.Last{Time: b[0], Source: b[1], Seq: b[2], Value: b[3]}
			if got, want := cell.Later(x, y), slices.Compare(a, b) > 0; got != want {
				t.Fatalf("Later(%v, %v): %v", x, y, got)
			}
		}
	}
}

// P2.1: the chapter's example.
func TestJoinOfTwo(t *testing.T) {
	a := cell.One(1, api.Op{Seq: 3, Time: 10, Value: -5})
	b := cell.One(0, api.Op{Seq: 9, Time: 10, Value: 7})
	want := api.Cell{Count: 2, Sum: api.Wide{Lo: 2}, Min: -5, Max: 7, Last: api.Last{Time: 10, Source: 1, Seq: 3, Value: -5}}
	want.Hist[3] = 2
	if got := cell.Join(a, b); got != want {
		t.Error(got)
	}
	if got := cell.Join(b, a); got != want {
		t.Error("the other way round:", got)
	}
}

// P2.1: of no cells, and of units alone, Join is the unit; of one cell it is that cell.
func TestJoinOfFew(t *testing.T) {
	unit := cell.Unit()
	for n := range 4 {
		if got := cell.Join(make([]api.Cell, n)...); got != unit {
			t.Errorf("%d units: %v", n, got)
		}
	}
	if got := cell.Join(nil...); got != unit {
		t.Error("none:", got)
	}
	for _, c := range append(odd(), cellsOf(samples(2, 50))...) {
		if cell.Join(c) != c || cell.Join(unit, c) != c || cell.Join(c, unit) != c || cell.Join(unit, c, unit) != c {
			t.Errorf("one cell doesn't stay: %v", c)
		}
	}
}

// P2.1: counts, sums and places of Hist wrap around.
func TestJoinWrapsAround(t *testing.T) {
	a := api.Cell{Count: math.MaxInt, Sum: api.Wide{Hi: math.MaxInt, Lo: math.MaxUint}}
	a.Hist[0], a.Hist[64] = math.MaxInt, math.MinInt
	b := api.Cell{Count: 1, Sum: api.Wide{Lo: 1}}
	b.Hist[0], b.Hist[64] = 1, -1
	want := api.Cell{Count: math.MinInt, Sum: api.Wide{Hi: math.MinInt}}
	want.Hist[0], want.Hist[64] = math.MinInt, math.MaxInt
	if got := cell.Join(a, b); got != want {
		t.Error(got)
	}
	carry := cell.Join(api.Cell{Sum: api.Wide{Lo: math.MaxUint}}, api.Cell{Sum: api.Wide{Lo: 1}})
	if carry.Sum != (api.Wide{Hi: 1}) {
		t.Error("no carry:", carry.Sum)
	}
}

// P2.1: what was joined so far may look like the unit without being of no cell: its Min, Max and Last count.
func TestJoinThatPassesTheUnit(t *testing.T) {
	up, down := api.Cell{Count: 1}, api.Cell{Count: -1}
	if got := cell.Join(up, down); got != cell.Unit() {
		t.Error("two that cancel out:", got)
	}
	c := api.Cell{Count: 1, Min: 5, Max: 5, Last: api.Last{Time: -3}}
	want := api.Cell{Count: 1, Max: 5}
	permutations([]api.Cell{up, down, c, cell.Unit()}, func(cells []api.Cell) {
		if got := cell.Join(cells...); got != want {
			t.Errorf("%v: %v", cells, got)
		}
	})
	c = api.Cell{Count: 1, Min: -5, Max: -5, Last: api.Last{Time: -3}}
	want = api.Cell{Count: 1, Min: -5}
	permutations([]api.Cell{up, down, c}, func(cells []api.Cell) {
		if got := cell.Join(cells...); got != want {
			t.Errorf("%v: %v", cells, got)
		}
	})
}

// P2.1: cells without a count are passed over just if they are the unit.
func TestJoinOfCellsThatNoSamplesComeTo(t *testing.T) {
	for _, a := range odd() {
		for _, b := range odd() {
			want := api.Cell{Count: a.Count + b.Count, Min: min(a.Min, b.Min), Max: max(a.Max, b.Max), Last: a.Last}
			sum := new(big.Int).Add(wide(a.Sum), wide(b.Sum))
			want.Sum = wrapped(sum)
			if cell.Later(b.Last, a.Last) {
				want.Last = b.Last
			}
			for place := range want.Hist {
				want.Hist[place] = a.Hist[place] + b.Hist[place]
			}
			if got := cell.Join(a, b); got != want {
				t.Fatalf("Join(%v, %v): %v, want %v", a, b, got, want)
			}
		}
	}
}

// wide is a wide number as one without a bound.
func wide(a api.Wide) *big.Int {
	upper := new(big.Int).Lsh(big.NewInt(int64(a.Hi)), 64)
	return upper.Add(upper, new(big.Int).SetUint64(uint64(a.Lo)))
}

// P2.1, and rule 5: the cells that are handed in stay as they are.
func TestJoinLeavesItsCells(t *testing.T) {
	room := cellsOf(samples(3, 12))
	was := slices.Clone(room)
	cell.Join(room[:5]...)
	if !slices.Equal(room, was) {
		t.Error("Join changed what was handed in")
	}
}

// P2.2: samples come to the model's cell, in whatever order.
func TestJoinIsOfAllSamples(t *testing.T) {
	for n := range 80 {
		list := samples(uint64(n), n)
		want := model(list)
		if got := cell.Join(cellsOf(list)...); got != want {
			t.Fatalf("%v: %v, want %v", list, got, want)
		}
		slices.Reverse(list)
		if got := cell.Join(cellsOf(list)...); got != want {
			t.Fatalf("%v: %v, want %v", list, got, want)
		}
	}
}

// P2.2: the order of a few samples doesn't matter.
func TestJoinInEachOrder(t *testing.T) {
	for seed := range uint64(20) {
		cells := cellsOf(samples(seed, 5)[:5])
		want := cell.Join(cells...)
		permutations(cells, func(cells []api.Cell) {
			if got := cell.Join(cells...); got != want {
				t.Fatalf("%v: %v, want %v", cells, got, want)
			}
		})
	}
}

// P2.2: samples that are alike in time, source and number are told apart by their values, in either order.
func TestJoinOfSamplesThatAreAlike(t *testing.T) {
	a, b := sample{1, api.Op{Seq: 2, Time: 3, Value: -8}}, sample{1, api.Op{Seq: 2, Time: 3, Value: 4}}
	for _, got := range []api.Cell{cell.Join(a.cell(), b.cell()), cell.Join(b.cell(), a.cell())} {
		if got.Last.Value != 4 || got != model([]sample{a, b}) {
			t.Error(got)
		}
	}
	if got := cell.Join(a.cell(), a.cell()); got != model([]sample{a, a}) {
		t.Error("twice the same:", got)
	}
}

// P2.2: it doesn't matter how the samples are grouped, units among them or not.
func TestJoinInGroups(t *testing.T) {
	for seed := range uint64(40) {
		list := samples(seed, 12)
		cells := cellsOf(list)
		want := model(list)
		for i := range len(cells) + 1 {
			for j := i; j <= len(cells); j++ {
				a, b, c := cell.Join(cells[:i]...), cell.Join(cells[i:j]...), cell.Join(cells[j:]...)
				for _, got := range []api.Cell{
					cell.Join(a, b, c),
					cell.Join(cell.Join(a, b), c),
					cell.Join(a, cell.Join(b, c)),
					cell.Join(c, cell.Unit(), a, b),
				} {
					if got != want {
						t.Fatalf("%v cut at %d and %d: %v, want %v", list, i, j, got, want)
					}
				}
			}
		}
	}
}

// P2.2: one by one, from either end.
func TestJoinOneByOne(t *testing.T) {
	list := samples(9, 300)
	left, right := cell.Unit(), cell.Unit()
	for i, s := range list {
		left = cell.Join(left, s.cell())
		right = cell.Join(list[len(list)-1-i].cell(), right)
		if got := model(list[:i+1]); left != got {
			t.Fatalf("the first %d: %v, want %v", i+1, left, got)
		}
	}
	if left != right {
		t.Errorf("%v from one end, %v from the other", left, right)
	}
}

// P2.1: the numbers of written cells.
func TestNumsOfWrittenCases(t *testing.T) {
	c := cell.Join(cell.One(1, api.Op{Seq: 3, Time: 10, Value: -5}), cell.One(0, api.Op{Seq: 9, Time: 10, Value: 7}), cell.One(0, api.Op{}))
	c.Hist[64] = -6
	if got, want := cell.Nums(c), []int{3, 0, 2, -5, 7, 10, 1, 3, -5, 3, 0, 1, 3, 2, 64, -6}; !slices.Equal(got, want) {
		t.Errorf("%v, want %v", got, want)
	}
	if got := cell.Nums(cell.Unit()); !slices.Equal(got, make([]int, 10)) {
		t.Error("the unit:", got)
	}
	high := api.Cell{Sum: api.Wide{Hi: math.MinInt, Lo: math.MaxUint - 1}}
	if got, want := cell.Nums(high), []int{0, math.MinInt, -2, 0, 0, 0, 0, 0, 0, 0}; !slices.Equal(got, want) {
		t.Errorf("%v, want %v", got, want)
	}
	all := cell.Nums(full())
	want := []int{1, -2, 3, -4, 5, 6, -7, 8, -9, 65}
	for place := range 65 {
		want = append(want, place, 100-3*place)
	}
	if !slices.Equal(all, want) {
		t.Errorf("all places: %v, want %v", all, want)
	}
}

// P2.3: a cell comes back from its numbers, and so do the numbers behind it.
func TestTakeOfNums(t *testing.T) {
	cells := append(odd(), cell.Unit(), full())
	for n := range 30 {
		list := cellsOf(samples(uint64(n), n))
		cells = append(cells, cell.Join(list...))
		cells = append(cells, list...)
	}
	for _, c := range cells {
		for _, behind := range [][]int{nil, {0}, {8, 9}, {64, 1}, {65, 0, math.MinInt}, cell.Nums(full())} {
			nums := append(cell.Nums(c), behind...)
			was := slices.Clone(nums)
			got, rest, ok := cell.Take(nums)
			if got != c || !slices.Equal(rest, behind) || !ok {
				t.Fatalf("Take(%v): %v, %v, %v", nums, got, rest, ok)
			}
			if !slices.Equal(nums, was) {
				t.Fatalf("Take changed %v to %v", was, nums)
			}
		}
	}
}

// P2.3: cells one behind the other.
func TestTakeOfManyCells(t *testing.T) {
	cells := append(odd(), cell.Unit(), cell.Unit())
	var nums []int
	for _, c := range cells {
		nums = append(nums, cell.Nums(c)...)
	}
	for i, c := range cells {
		got, rest, ok := cell.Take(nums)
		if got != c || !ok {
			t.Fatalf("cell %d: %v, %v; want %v", i, got, ok, c)
		}
		nums = rest
	}
	if len(nums) != 0 {
		t.Error("behind the last one:", nums)
	}
}

// expectNone holds that no cell begins the numbers.
func expectNone(t *testing.T, nums []int) {
	t.Helper()
	if c, rest, ok := cell.Take(nums); c != cell.Unit() || len(rest) != 0 || ok {
		t.Errorf("Take(%v): %v, %v, %v", nums, c, rest, ok)
	}
}

// P2.3: too few numbers are no cell's.
func TestTakeOfTooFew(t *testing.T) {
	expectNone(t, nil)
	expectNone(t, []int{})
	for _, c := range append(odd(), cell.Unit(), cell.One(1, api.Op{Seq: 2, Time: 3, Value: 4})) {
		nums := cell.Nums(c)
		for n := range nums {
			expectNone(t, nums[:n])
			expectNone(t, nums[:n:n])
		}
	}
}

// pairs is numbers that begin with a full row of fields, then a count of places and their pairs.
func pairs(n int, list ...int) []int {
	return append([]int{1, 2, 3, 4, 5, 6, 7, 8, 9, n}, list...)
}

// P2.3: places that Nums never answers so.
func TestTakeOfWrongPlaces(t *testing.T) {
	long := make([]int, 200)
	for i := range long {
		long[i] = i/2*(1-i%2) + i%2 // pairs of 0, 1, 2 .. with the number 1
	}
	for _, n := range []int{-1, -2, -65, math.MinInt, math.MinInt + 1, math.MinInt/2 - 1, 66, 67, 100, 101, 1 << 62, 1<<62 + 1, 1<<63 - 1} {
		expectNone(t, pairs(n))
		expectNone(t, pairs(n, long...))
	}
	if _, rest, ok := cell.Take(pairs(65, long...)); !ok || len(rest) != 70 {
		t.Error("all places:", rest, ok)
	}
	for _, nums := range [][]int{
		pairs(1), pairs(1, 3), pairs(2, 3, 1), pairs(2, 3, 1, 4), // too few
		pairs(1, 3, 0), pairs(2, 3, 1, 4, 0), pairs(2, 3, 0, 4, 1), pairs(1, 0, 0), pairs(1, 64, 0), // 0 at a place
		pairs(2, 3, 1, 3, 1), pairs(2, 4, 1, 3, 1), pairs(2, 0, 1, 0, 1), pairs(2, 64, 1, 0, 1), pairs(3, 1, 1, 5, 1, 4, 1), pairs(3, 1, 1, 5, 1, 1, 1), // don't rise
		pairs(1, 65, 1), pairs(1, -1, 1), pairs(1, math.MaxInt, 1), pairs(1, math.MinInt, 1), pairs(2, 64, 1, 65, 1), pairs(2, -1, 1, 0, 1), pairs(2, 3, 1, math.MaxInt, 1), // no places
	} {
		expectNone(t, nums)
		expectNone(t, append(nums, 0))
	}
}

// P2.3: what Take takes has the same numbers again, of whatever numbers.
func TestNumsOfTake(t *testing.T) {
	x := uint64(5)
	few := []int{0, 1, 2, 3, 63, 64, 65, -1, math.MinInt, math.MaxInt}
	taken := 0
	for range 20000 {
		var nums []int
		for range 9 {
			nums = append(nums, few[scramble(&x)%uint64(len(few))])
		}
		nums = append(nums, int(scramble(&x)%5)-1)
		for range scramble(&x) % 10 {
			nums = append(nums, few[scramble(&x)%uint64(len(few))])
		}
		c, rest, ok := cell.Take(nums)
		if !ok {
			if c != cell.Unit() || len(rest) != 0 {
				t.Fatalf("Take(%v): %v, %v, without a cell", nums, c, rest)
			}
			continue
		}
		taken++
		if again := append(cell.Nums(c), rest...); !slices.Equal(again, nums) {
			t.Fatalf("Take(%v) has the numbers %v", nums, again)
		}
	}
	if taken < 1000 {
		t.Error("too few of the rows were a cell's:", taken)
	}
}

// P2.1, and rule 5: answers are new memory.
func TestAnswersAreNewMemory(t *testing.T) {
	nums := append(cell.Nums(full()), 1, 2, 3)
	was := slices.Clone(nums)
	_, rest, _ := cell.Take(nums)
	for i := range rest {
		rest[i] = -1
	}
	_ = append(rest, -1)
	if !slices.Equal(nums, was) {
		t.Error("what is behind the cell is shared with the argument")
	}
	_, rest, _ = cell.Take(nums)
	clear(nums)
	if !slices.Equal(rest, []int{1, 2, 3}) {
		t.Error("the argument is kept in the answer:", rest)
	}
	a := cell.Nums(full())
	clear(a)
	if b := cell.Nums(full()); !slices.Equal(b, was[:len(was)-3]) {
		t.Error("two answers share memory")
	}
}
