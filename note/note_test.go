package note_test

import (
	"bytes"
	"encoding/binary"
	"hash/fnv"
	"math"
	"math/big"
	"slices"
	"testing"

	"estuary/api"
	"estuary/note"
)

const (
	least    = math.MinInt
	greatest = math.MaxInt
)

// kind is what the chapter's table says of a Kind.
type kind struct {
	number       int
	counts       []int // all numbers of Nums that are allowed
	ops, entries int   // at most
}

// kinds is the chapter's table, with each count written out.
func kinds() []kind {
	return []kind{
		{1, []int{4}, 0, 0},
		{2, between(7, 39), 0, 0},
		{3, between(4, 36), 0, 0},
		{4, []int{4}, 0, 0},
		{5, []int{7}, 0, 0},
		{6, []int{1, 3, 5, 7, 9, 11, 13, 15, 17, 19, 21, 23, 25}, 0, 0},
		{7, []int{2, 4, 6, 8, 10, 12, 14, 16, 18, 20, 22, 24, 26}, 16, 0},
		{8, []int{6}, 0, 16},
		{9, []int{4}, 0, 0},
	}
}

// between is all numbers from one to another.
func between(from, to int) []int {
	var list []int
	for n := from; n <= to; n++ {
		list = append(list, n)
	}
	return list
}

// inForm tells by the table whether a note is in form.
func inForm(n api.Note) bool {
	at := slices.IndexFunc(kinds(), func(k kind) bool { return k.number == n.Kind })
	if at < 0 || min(n.From, n.To) < 0 || max(n.From, n.To) > 999 {
		return false
	}
	k := kinds()[at]
	wrong := slices.ContainsFunc(n.Ops, func(o api.Op) bool { return !slices.Contains([]int{1, 2}, o.Kind) })
	return slices.Contains(k.counts, len(n.Nums)) && len(n.Ops) <= k.ops && len(n.Entries) <= k.entries && !wrong
}

// flat is a note's numbers by the chapter, one by one.
func flat(n api.Note) []int {
	list := []int{n.Kind, n.From, n.To}
	list = append(append(list, len(n.Nums)), n.Nums...)
	list = append(list, len(n.Ops))
	for _, o := range n.Ops {
		list = append(list, o.Seq, o.Kind, o.Time, o.Key, o.Value)
	}
	list = append(list, len(n.Entries))
	for _, e := range n.Entries {
		c := e.Cell
		list = append(list, e.Win, e.Key, c.Count, c.Sum.Hi, int(c.Sum.Lo), c.Min, c.Max, c.Last.Time, c.Last.Source, c.Last.Seq, c.Last.Value)
		var pairs []int
		for place, n := range c.Hist {
			if n != 0 {
				pairs = append(pairs, place, n)
			}
		}
		list = append(append(list, len(pairs)/2), pairs...)
	}
	return list
}

// framed is the frame of bytes by the library's sum, whatever its size.
func framed(b []byte) []byte {
	h := fnv.New32a()
	h.Write(b)
	out := binary.LittleEndian.AppendUint32(nil, uint32(len(b)))
	out = binary.LittleEndian.AppendUint32(out, h.Sum32())
	return append(out, b...)
}

// spelled is the frame of numbers by package big.
func spelled(nums ...int) []byte {
	var all []byte
	for _, n := range nums {
		turned := new(big.Int).Mul(big.NewInt(int64(n)), big.NewInt(2))
		if n < 0 {
			turned.Neg(turned).Sub(turned, big.NewInt(1))
		}
		b := turned.Bytes()
		slices.Reverse(b)
		all = append(append(all, byte(len(b))), b...)
	}
	return framed(all)
}

// cursor goes through numbers, and goes bad where one is missing or wrong.
type cursor struct {
	nums []int
	bad  bool
}

// next is the next number; 0, if it is bad.
func (c *cursor) next() int {
	if c.bad = c.bad || len(c.nums) == 0; c.bad {
		return 0
	}
	n := c.nums[0]
	c.nums = c.nums[1:]
	return n
}

// count is the next number, which must be from 0 to most.
func (c *cursor) count(most int) int {
	n := c.next()
	if c.bad = c.bad || n < 0 || n > most; c.bad {
		return 0
	}
	return n
}

// parsed is the note in form of numbers by the model, and whether there is one.
func parsed(nums []int) (api.Note, bool) {
	c := &cursor{nums: nums}
	n := api.Note{Kind: c.next(), From: c.next(), To: c.next()}
	for range c.count(64) {
		n.Nums = append(n.Nums, c.next())
	}
	for range c.count(16) {
		n.Ops = append(n.Ops, api.Op{Seq: c.next(), Kind: c.next(), Time: c.next(), Key: c.next(), Value: c.next()})
	}
	for range c.count(16) {
		e := api.Entry{Place: api.Place{Win: c.next(), Key: c.next()}}
		e.Cell.Count = c.next()
		e.Cell.Sum = api.Wide{Hi: c.next(), Lo: uint(c.next())}
		e.Cell.Min, e.Cell.Max = c.next(), c.next()
		e.Cell.Last = api.Last{Time: c.next(), Source: c.next(), Seq: c.next(), Value: c.next()}
		last := -1
		for range c.count(65) {
			place, number := c.next(), c.next()
			if c.bad = c.bad || place <= last || place > 64 || number == 0; !c.bad {
				e.Cell.Hist[place], last = number, place
			}
		}
		n.Entries = append(n.Entries, e)
	}
	if c.bad || len(c.nums) > 0 || !inForm(n) {
		return api.Note{}, false
	}
	return n, true
}

// alike tells whether two notes are the same, by their numbers.
func alike(a, b api.Note) bool { return slices.Equal(flat(a), flat(b)) }

// zero tells whether a note has nothing.
func zero(n api.Note) bool {
	return n.Kind == 0 && n.From == 0 && n.To == 0 && n.Nums == nil && n.Ops == nil && n.Entries == nil
}

// scramble is a number that looks like none: the same at each run.
func scramble(seed int) int {
	x := uint64(seed) * 0x9e3779b97f4a7c15
	x = (x ^ x>>30) * 0xbf58476d1ce4e5b9
	x = (x ^ x>>27) * 0x94d049bb133111eb
	return int(x ^ x>>31)
}

// filled is so many numbers of all sizes.
func filled(count, seed int) []int {
	nums := make([]int, count)
	for i := range nums {
		n := scramble(seed<<20 + i + 1)
		nums[i] = n >> (n & 63)
	}
	return nums
}

// opsOf is so many operations.
func opsOf(count, seed int) []api.Op {
	var ops []api.Op
	for i := range count {
		n := filled(4, seed<<8+i)
		ops = append(ops, api.Op{Seq: n[0], Kind: 1 + scramble(seed+i)&1, Time: n[1], Key: n[2], Value: n[3]})
	}
	return ops
}

// entriesOf is so many entries, of cells with none to all places of Hist in use.
func entriesOf(count, seed int) []api.Entry {
	var entries []api.Entry
	for i := range count {
		n := filled(11, seed<<9+i)
		c := api.Cell{Count: n[0], Sum: api.Wide{Hi: n[1], Lo: uint(n[2])}, Min: n[3], Max: n[4], Last: api.Last{Time: n[5], Source: n[6], Seq: n[7], Value: n[8]}}
		for place := range c.Hist {
			if rare := seed % 4; scramble(place+seed)&(1<<rare-1) == 0 && rare < 3 {
				c.Hist[place] = filled(1, place+i)[0]
			}
		}
		entries = append(entries, api.Entry{Place: api.Place{Win: n[9], Key: n[10]}, Cell: c})
	}
	return entries
}

// notes is notes in form: of each Kind with each count of Nums, and Ops and Entries from none to as many as may be.
func notes() []api.Note {
	var list []api.Note
	for _, k := range kinds() {
		for i, count := range k.counts {
			for ops := range k.ops + 1 {
				list = append(list, api.Note{Kind: k.number, From: i, To: 999 - i, Nums: filled(count, i), Ops: opsOf(ops, i)})
			}
			for entries := range k.entries + 1 {
				list = append(list, api.Note{Kind: k.number, From: i, To: 999 - i, Nums: filled(count, i), Entries: entriesOf(entries, entries)})
			}
		}
	}
	return list
}

// small is a note in form of each Kind, with few numbers.
func small() []api.Note {
	c := api.Cell{Count: 1, Sum: api.Wide{Hi: -1, Lo: 1<<64 - 5}, Min: -5, Max: -5, Last: api.Last{Time: 10, Source: 1, Seq: 3, Value: -5}}
	c.Hist[3] = 1
	c.Hist[64] = -2
	return []api.Note{
		{Kind: 1, From: 3, To: 1, Nums: []int{7, 2, 1, 0}},
		{Kind: 2, From: 3, To: 1, Nums: []int{7, 2, 1, 0, 1, 0, 4, -300, 5}},
		{Kind: 3, From: 3, To: 1, Nums: []int{7, 2, 1, 0, 8}},
		{Kind: 4, From: 3, To: 1, Nums: []int{7, 2, 1, 0}},
		{Kind: 5, From: 3, To: 1, Nums: []int{7, 2, 1, 0, 3, 2, 1}},
		{Kind: 6, From: 3, To: 1, Nums: []int{9, -1, 2, least, greatest}},
		{Kind: 7, From: 3, To: 1, Nums: []int{9, 12, -1, 2}, Ops: []api.Op{{Seq: 9, Kind: 1, Time: -3, Key: 4, Value: 5}, {Seq: 12, Kind: 2, Time: 1}}},
		{Kind: 8, From: 3, To: 1, Nums: []int{1, 2, 3, 4, 5, 6}, Entries: []api.Entry{{Place: api.Place{Win: 3, Key: 9}, Cell: c}, {Place: api.Place{Win: 4, Key: -9}}}},
		{Kind: 9, From: 3, To: 1, Nums: []int{1, 2, 3, 4}},
	}
}

// refused checks that a note isn't in form, for Check and for Encode.
func refused(t *testing.T, why string, n api.Note) {
	t.Helper()
	if err := note.Check(n); err != api.ErrForm {
		t.Errorf("%s: Check: %v", why, err)
	}
	if b, err := note.Encode(n); b != nil || err != api.ErrForm {
		t.Errorf("%s: Encode: %x, %v", why, b, err)
	}
	if got, err := note.Decode(spelled(flat(n)...)); !zero(got) || err != api.ErrNote {
		t.Errorf("%s: Decode: %v, %v", why, got, err)
	}
}

// taken checks that a note is in form, has the model's bytes, and comes back from them.
func taken(t *testing.T, why string, n api.Note) {
	t.Helper()
	if err := note.Check(n); err != nil {
		t.Errorf("%s: Check: %v", why, err)
	}
	b, err := note.Encode(n)
	if !bytes.Equal(b, spelled(flat(n)...)) || err != nil {
		t.Errorf("%s: Encode: %x, %v", why, b, err)
	}
	got, err := note.Decode(b)
	if !alike(got, n) || err != nil {
		t.Errorf("%s: Decode: %v, %v", why, got, err)
	}
	if !note.Same(got, n) || !note.Same(n, got) {
		t.Errorf("%s: not the same behind Decode", why)
	}
	if again, err := note.Encode(got); !bytes.Equal(again, b) || err != nil {
		t.Errorf("%s: written again: %x, %v", why, again, err)
	}
}

// either checks a note by the table.
func either(t *testing.T, why string, n api.Note) {
	t.Helper()
	if inForm(n) {
		taken(t, why, n)
	} else {
		refused(t, why, n)
	}
}

// P5.1 and P5.2: the chapter's bytes.
func TestExample(t *testing.T) {
	n := api.Note{Kind: api.NDone, From: 3, To: 1, Nums: []int{7, 2, 1, 0}}
	want := framed([]byte("\x01\x08\x01\x06\x01\x02\x01\x08\x01\x0e\x01\x04\x01\x02\x00\x00\x00"))
	b, err := note.Encode(n)
	if !bytes.Equal(b, want) || err != nil {
		t.Errorf("Encode: %x, %v", b, err)
	}
	got, err := note.Decode(want)
	if !alike(got, n) || err != nil {
		t.Errorf("Decode: %v, %v", got, err)
	}
}

// P5.1: an operation's and an entry's bytes, number by number.
func TestBytesOfLists(t *testing.T) {
	var c api.Cell
	c.Count, c.Sum, c.Min, c.Max = 1, api.Wide{Hi: 2, Lo: 1<<64 - 1}, 3, 4
	c.Last = api.Last{Time: 5, Source: 6, Seq: 7, Value: 8}
	c.Hist[0], c.Hist[64] = 9, 10
	for _, w := range []struct {
		n    api.Note
		nums []int
	}{
		{api.Note{Kind: 7, From: 20, To: 21, Nums: []int{30, 31, 32, 33}, Ops: []api.Op{{Seq: 40, Kind: 1, Time: 41, Key: 42, Value: 43}, {Seq: 50, Kind: 2, Time: 51, Key: 52, Value: 53}}},
			[]int{7, 20, 21, 4, 30, 31, 32, 33, 2, 40, 1, 41, 42, 43, 50, 2, 51, 52, 53, 0}},
		{api.Note{Kind: 8, From: 20, To: 21, Nums: []int{30, 31, 32, 33, 34, 35}, Entries: []api.Entry{{Place: api.Place{Win: 60, Key: 61}, Cell: c}, {Place: api.Place{Win: 70, Key: 71}}}},
			[]int{8, 20, 21, 6, 30, 31, 32, 33, 34, 35, 0, 2, 60, 61, 1, 2, -1, 3, 4, 5, 6, 7, 8, 2, 0, 9, 64, 10, 70, 71, 0, 0, 0, 0, 0, 0, 0, 0, 0, 0}},
	} {
		if b, err := note.Encode(w.n); !bytes.Equal(b, spelled(w.nums...)) || err != nil {
			t.Errorf("Encode of Kind %d: %x, %v", w.n.Kind, b, err)
		}
		if got, err := note.Decode(spelled(w.nums...)); !alike(got, w.n) || err != nil {
			t.Errorf("Decode of Kind %d: %v, %v", w.n.Kind, got, err)
		}
	}
}

// P5.1 and P5.2: notes of each Kind and of all counts that are allowed.
func TestNotesInForm(t *testing.T) {
	for _, n := range slices.Concat(notes(), small()) {
		if !inForm(n) {
			t.Fatalf("%v isn't in form by the table", n)
		}
		taken(t, "in form", n)
	}
}

// P5.1: each Kind with each number of Nums; other Kinds are none.
func TestCountsOfNums(t *testing.T) {
	others := []int{0, -1, 10, 11, 12, 16, 255, 256, 257, 1<<32 + 1, -256 + 4, least, greatest, least + 4}
	for _, k := range slices.Concat(between(1, 9), others) {
		for count := range 72 {
			either(t, "Kind and Nums", api.Note{Kind: k, Nums: filled(count, count)})
		}
	}
	refused(t, "the zero note", api.Note{})
}

// P5.1: From and To are from 0 to 999.
func TestNodes(t *testing.T) {
	edges := []int{-1, 0, 1, 500, 998, 999, 1000, 1001, -999, -1000, 1024, 1 << 16, 1 << 32, least, greatest}
	for _, n := range small() {
		for _, from := range edges {
			for _, to := range edges {
				n.From, n.To = from, to
				either(t, "nodes", n)
			}
		}
	}
}

// P5.1: Ops and Entries just where the Kind has them, and at most 16.
func TestCountsOfLists(t *testing.T) {
	for _, n := range small() {
		n.Ops, n.Entries = nil, nil
		taken(t, "no lists", n)
		n.Ops, n.Entries = []api.Op{}, []api.Entry{}
		taken(t, "empty lists", n)
		for _, count := range []int{1, 2, 15, 16, 17, 18, 32} {
			n.Ops, n.Entries = opsOf(count, 1), nil
			either(t, "operations", n)
			n.Ops, n.Entries = nil, make([]api.Entry, count)
			either(t, "entries", n)
			n.Ops, n.Entries = opsOf(1, 1), make([]api.Entry, count)
			refused(t, "both lists", n)
		}
	}
	many := api.Note{Kind: 7, Nums: []int{1, 2}, Ops: slices.Repeat(opsOf(1, 1), 1<<16)}
	if err := note.Check(many); err != api.ErrForm {
		t.Errorf("many operations: %v", err)
	}
	long := api.Note{Kind: 2, Nums: make([]int, 1<<20)}
	if b, err := note.Encode(long); b != nil || err != api.ErrForm {
		t.Errorf("many numbers: %d bytes, %v", len(b), err)
	}
}

// P5.1: an operation is a sample or a mark, wherever it stands; its other numbers don't matter.
func TestKindsOfOperations(t *testing.T) {
	for _, k := range []int{-2, -1, 0, 1, 2, 3, 4, 257, 258, 1<<32 + 1, least, greatest} {
		for size := 1; size <= 16; size++ {
			for at := range size {
				n := api.Note{Kind: 7, Nums: []int{1, 2}, Ops: opsOf(size, size)}
				n.Ops[at].Kind = k
				either(t, "an operation's Kind", n)
			}
		}
	}
	for _, k := range []int{1, 2} {
		for _, v := range []int{0, 1, -1, least, greatest} {
			taken(t, "an operation's numbers", api.Note{Kind: 7, Nums: []int{1, 2}, Ops: []api.Op{{Seq: v, Kind: k, Time: v, Key: v, Value: v}}})
		}
	}
}

// P5.1: bytes that aren't just one frame.
func TestDecodeOfNoFrame(t *testing.T) {
	none := func(why string, b []byte) {
		t.Helper()
		if got, err := note.Decode(b); !zero(got) || err != api.ErrFrame {
			t.Errorf("%s: %v, %v", why, got, err)
		}
	}
	none("nothing", nil)
	none("no bytes", []byte{})
	none("noughts", make([]byte, 40))
	wrong := spelled(4, 3, 1)
	for _, n := range small() {
		b := spelled(flat(n)...)
		for size := range len(b) {
			none("cut", b[:size])
		}
		none("a byte behind", append(slices.Clone(b), 0))
		none("two frames", slices.Concat(b, b))
		none("an empty frame behind", slices.Concat(b, framed(nil)))
		none("a frame behind that is no note's", slices.Concat(b, wrong))
		none("a frame ahead that is no note's", slices.Concat(wrong, b))
		none("bytes without their frame", b[8:])
		none("a frame within a frame, cut", framed(b)[:len(b)+7])
		for bit := range 8 * len(b) {
			other := slices.Clone(b)
			other[bit/8] ^= 1 << (bit % 8)
			none("another bit", other)
		}
	}
	none("bytes behind no note", append(wrong, 1))
	none("too long", framed(make([]byte, 16377)))
	none("many bytes behind", append(spelled(flat(small()[0])...), make([]byte, 1<<20)...))
}

// P5.1: one frame whose bytes are no numbers, or those of no note.
func TestDecodeOfNoNote(t *testing.T) {
	none := func(why string, b []byte) {
		t.Helper()
		if got, err := note.Decode(b); !zero(got) || err != api.ErrNote {
			t.Errorf("%s: %v, %v", why, got, err)
		}
	}
	none("an empty frame", framed(nil))
	none("many numbers", framed(make([]byte, 16376)))
	for _, n := range small() {
		b := spelled(flat(n)...)
		none("a frame within a frame", framed(b))
		none("half of a number behind", framed(append(b[8:], 1)))
		none("a number with a nought too many", framed(slices.Concat([]byte{2, byte(2 * n.Kind), 0}, b[10:])))
		nums := flat(n)
		for size := range len(nums) {
			none("cut", spelled(nums[:size]...))
		}
		for _, more := range []int{0, 1, -1, greatest} {
			none("a number left over", spelled(append(slices.Clone(nums), more)...))
		}
	}
	head := []int{7, 3, 1}
	for _, nums := range [][]int{
		{7, 3, 1, -1, 0, 0},
		{7, 3, 1, -2, 1, 2, 0, 0},
		{7, 3, 1, 2, 8, 9, -1, 0},
		{7, 3, 1, 2, 8, 9, 0, -1},
		{7, 3, 1, 3, 8, 9, 0, 0},
		{7, 3, 1, 1, 8, 9, 0, 0},
		{7, 3, 1, 2, 8, 9, 1, 0},
		{7, 3, 1, 2, 8, 9, 1, 5, 1, 6, 7, 0},
		{7, 3, 1, 2, 8, 9, 1, 5, 3, 6, 7, 8, 0},
		{7, 3, 1, 2, 8, 9, 1, 5, 1, 6, 7, 8},
		{7, 1000, 1, 2, 8, 9, 0, 0},
		{7, 3, -1, 2, 8, 9, 0, 0},
	} {
		none("a row of numbers", spelled(nums...))
	}
	taken(t, "the row beside them", api.Note{Kind: 7, From: 3, To: 1, Nums: []int{8, 9}, Ops: []api.Op{{Seq: 5, Kind: 1, Time: 6, Key: 7, Value: 8}}})
	for _, count := range []int{least, least + 2, -1 << 62, 1 << 32, 1<<32 + 2, 1 << 61, 1<<62 + 2, greatest/5 + 1, greatest / 5, greatest, greatest - 1} {
		none("a great count of Nums", spelled(slices.Concat(head, []int{count, 8, 9, 0, 0})...))
		none("a great count of Ops", spelled(slices.Concat(head, []int{2, 8, 9, count, 0})...))
		none("a great count of Ops, and one", spelled(slices.Concat(head, []int{2, 8, 9, count, 5, 1, 6, 7, 8, 0})...))
		none("a great count of Entries", spelled(slices.Concat(head, []int{2, 8, 9, 0, count})...))
		none("a great count of Entries, and one", spelled(slices.Concat([]int{8, 3, 1, 6, 1, 2, 3, 4, 5, 6, 0, count}, make([]int, 12))...))
	}
}

// P5.1: an entry's cell has the form of layer 2, and all of it is there.
func TestDecodeOfWrongEntries(t *testing.T) {
	head := []int{8, 3, 1, 6, 1, 2, 3, 4, 5, 6, 0}
	for _, c := range []struct {
		behind []int // the count of pairs, these, and what comes then
		ok     bool
	}{
		{[]int{0}, true},
		{[]int{1, 0, 5}, true},
		{[]int{2, 0, 5, 64, -1}, true},
		{[]int{0, 0}, false},
		{[]int{}, false},
		{[]int{-1}, false},
		{[]int{1}, false},
		{[]int{1, 0}, false},
		{[]int{1, 0, 0}, false},
		{[]int{1, -1, 5}, false},
		{[]int{1, 65, 5}, false},
		{[]int{2, 5, 5, 5, 5}, false},
		{[]int{2, 5, 5, 4, 5}, false},
		{[]int{1, 0, 5, 64, -1}, false},
		{[]int{greatest}, false},
		{[]int{1 << 63 >> 1}, false},
	} {
		one := slices.Concat([]int{7, 8, 1, 0, 2, 3, 4, 5, 6, 7, 8}, c.behind)
		for count := 1; count <= 17; count++ {
			// The others are whole: the wrong one stands first, in the middle, last.
			for _, at := range []int{0, count / 2, count - 1} {
				nums := append(slices.Clone(head), count)
				for i := range count {
					if i == at {
						nums = append(nums, one...)
					} else {
						nums = append(nums, 7, 8, 1, 0, 2, 3, 4, 5, 6, 7, 8, 0)
					}
				}
				got, err := note.Decode(spelled(nums...))
				want, ok := parsed(nums)
				if ok && (!alike(got, want) || err != nil) || !ok && (!zero(got) || err != api.ErrNote) {
					t.Errorf("%v at %d of %d: %v, %v", c.behind, at, count, got, err)
				}
				if count == 1 && ok != c.ok {
					t.Errorf("%v: the model takes it: %v", c.behind, ok)
				}
			}
		}
	}
}

// P5.1 and P5.2: of numbers that are nearly a note's, Decode takes just those that are one's by the model; written again they are the same bytes.
func TestDecodeAgainstTheModel(t *testing.T) {
	counts := [2]int{}
	check := func(nums []int) {
		t.Helper()
		b := spelled(nums...)
		if len(b) > 16384 {
			return
		}
		got, err := note.Decode(b)
		want, ok := parsed(nums)
		if !ok {
			counts[0]++
			if !zero(got) || err != api.ErrNote {
				t.Fatalf("Decode of %v: %v, %v", nums, got, err)
			}
			return
		}
		counts[1]++
		if !alike(got, want) || err != nil {
			t.Fatalf("Decode of %v: %v, %v", nums, got, err)
		}
		if again, err := note.Encode(got); !bytes.Equal(again, b) || err != nil {
			t.Fatalf("Decode of %v, written again: %x, %v", nums, again, err)
		}
	}
	few := []int{-1, 0, 1, 2, 3, 4, 6, 7, 8, 16, 17, 64, 65, 999, 1000, least, greatest}
	for _, n := range small() {
		nums := flat(n)
		for at := range nums {
			check(slices.Delete(slices.Clone(nums), at, at+1))
			for _, v := range few {
				check(slices.Insert(slices.Clone(nums), at, v))
				other := slices.Clone(nums)
				other[at] = v
				check(other)
				for near := max(at-3, 0); near < at; near++ {
					for _, w := range []int{0, 1, 2, 7} {
						another := slices.Clone(other)
						another[near] = w
						check(another)
					}
				}
			}
		}
	}
	for seed := range 20000 {
		nums := filled(4+seed%20, seed)
		for i := range nums {
			nums[i] = nums[i] & 7 % 5
		}
		nums[0], nums[3] = 1+seed%9, []int{1, 2, 4, 6, 7}[seed/9%5]
		check(nums)
	}
	if counts[0] < 1000 || counts[1] < 1000 {
		t.Errorf("%d were none, %d were notes", counts[0], counts[1])
	}
}

// fullest is the greatest note of a Kind: as much of all as may be, of numbers with the most bytes.
func fullest(k kind, n int) api.Note {
	all := api.Note{Kind: k.number, From: 999, To: 999, Nums: slices.Repeat([]int{n}, slices.Max(k.counts))}
	for range k.ops {
		all.Ops = append(all.Ops, api.Op{Seq: n, Kind: 2, Time: n, Key: n, Value: n})
	}
	for range k.entries {
		c := api.Cell{Count: n, Sum: api.Wide{Hi: n, Lo: uint(n)}, Min: n, Max: n, Last: api.Last{Time: n, Source: n, Seq: n, Value: n}}
		for place := range c.Hist {
			c.Hist[place] = n
		}
		all.Entries = append(all.Entries, api.Entry{Place: api.Place{Win: n, Key: n}, Cell: c})
	}
	return all
}

// P5.3: the greatest notes in form have bytes, and come back from them.
func TestGreatestNotes(t *testing.T) {
	longest := 0
	for _, k := range kinds() {
		for _, n := range []int{least, greatest, 1 << 62, -1 << 62, 1<<55 - 1, 1 << 55} {
			all := fullest(k, n)
			if !inForm(all) {
				t.Fatalf("Kind %d: not in form by the table", k.number)
			}
			taken(t, "the greatest note", all)
			longest = max(longest, len(spelled(flat(all)...)))
		}
	}
	// By hand: 8 of the frame, 2+3+3 of Kind, From and To, 2+6*9 of Nums, 1 of no Ops, 2 and 16 entries: 11 numbers of 9 bytes, 2 for 65, then 64 pairs of 2+9 and one of 1+9.
	if want := 8 + 8 + 56 + 1 + 2 + 16*(99+2+64*11+10); longest != want || longest > 16384 {
		t.Errorf("the longest note has %d bytes, not %d", longest, want)
	}
}

// twin is a note without shared memory that is the same.
func twin(n api.Note) api.Note {
	n.Nums, n.Ops, n.Entries = slices.Clone(n.Nums), slices.Clone(n.Ops), slices.Clone(n.Entries)
	return n
}

// whole is a note with all fields, in form for no Kind.
func whole() api.Note {
	return api.Note{Kind: 1, From: 2, To: 3, Nums: []int{4, 5}, Ops: opsOf(2, 3), Entries: entriesOf(2, 4)}
}

// changes is changes of a note, each of just one field.
func changes() []func(n *api.Note) {
	list := []func(n *api.Note){
		func(n *api.Note) { n.Kind++ },
		func(n *api.Note) { n.From++ },
		func(n *api.Note) { n.To++ },
		func(n *api.Note) { n.Nums = n.Nums[:1] },
		func(n *api.Note) { n.Nums = n.Nums[1:] },
		func(n *api.Note) { n.Nums = nil },
		func(n *api.Note) { n.Nums = append(n.Nums, 0) },
		func(n *api.Note) { slices.Reverse(n.Nums) },
		func(n *api.Note) { n.Ops = n.Ops[:1] },
		func(n *api.Note) { n.Ops = nil },
		func(n *api.Note) { n.Ops = append(n.Ops, api.Op{}) },
		func(n *api.Note) { slices.Reverse(n.Ops) },
		func(n *api.Note) { n.Entries = n.Entries[:1] },
		func(n *api.Note) { n.Entries = nil },
		func(n *api.Note) { n.Entries = append(n.Entries, api.Entry{}) },
		func(n *api.Note) { slices.Reverse(n.Entries) },
	}
	for i := range 2 {
		list = append(list,
			func(n *api.Note) { n.Nums[i]++ },
			func(n *api.Note) { n.Ops[i].Seq++ },
			func(n *api.Note) { n.Ops[i].Kind++ },
			func(n *api.Note) { n.Ops[i].Time++ },
			func(n *api.Note) { n.Ops[i].Key++ },
			func(n *api.Note) { n.Ops[i].Value++ },
			func(n *api.Note) { n.Entries[i].Win++ },
			func(n *api.Note) { n.Entries[i].Key++ },
			func(n *api.Note) { n.Entries[i].Cell.Count++ },
			func(n *api.Note) { n.Entries[i].Cell.Sum.Hi++ },
			func(n *api.Note) { n.Entries[i].Cell.Sum.Lo++ },
			func(n *api.Note) { n.Entries[i].Cell.Min++ },
			func(n *api.Note) { n.Entries[i].Cell.Max++ },
			func(n *api.Note) { n.Entries[i].Cell.Last.Time++ },
			func(n *api.Note) { n.Entries[i].Cell.Last.Source++ },
			func(n *api.Note) { n.Entries[i].Cell.Last.Seq++ },
			func(n *api.Note) { n.Entries[i].Cell.Last.Value++ },
		)
		for place := range 65 {
			list = append(list, func(n *api.Note) { n.Entries[i].Cell.Hist[place]++ })
		}
	}
	return list
}

// P5.1: notes are the same just if no field differs, in form or not.
func TestSame(t *testing.T) {
	if a := whole(); !note.Same(a, a) || !note.Same(a, twin(a)) || !note.Same(api.Note{}, api.Note{}) {
		t.Error("notes without a difference")
	}
	if !note.Same(api.Note{}, api.Note{Nums: []int{}, Ops: []api.Op{}, Entries: []api.Entry{}}) {
		t.Error("nil and empty lists")
	}
	for i, change := range changes() {
		a, b := whole(), twin(whole())
		change(&b)
		if note.Same(a, b) || note.Same(b, a) {
			t.Errorf("change %d isn't seen", i)
		}
		change(&a)
		if !note.Same(a, b) {
			t.Errorf("change %d of both", i)
		}
	}
	// Numbers that are the same in a row, but not in the same lists.
	a, b := api.Note{Nums: []int{1, 2}}, api.Note{Nums: []int{1}, Ops: []api.Op{{Seq: 2}}}
	if note.Same(a, b) || note.Same(b, a) {
		t.Error("numbers in other lists")
	}
}

// P5.1: the first three numbers, and 0 where there are fewer.
func TestBallot(t *testing.T) {
	for _, c := range []struct {
		nums []int
		want api.Ballot
	}{
		{nil, api.Ballot{}},
		{[]int{}, api.Ballot{}},
		{[]int{5}, api.Ballot{N: 5}},
		{[]int{5, 6}, api.Ballot{N: 5, Node: 6}},
		{[]int{5, 6, 7}, api.Ballot{N: 5, Node: 6, Life: 7}},
		{[]int{5, 6, 7, 8}, api.Ballot{N: 5, Node: 6, Life: 7}},
		{[]int{0, -1, least, 9, 9, 9, 9}, api.Ballot{N: 0, Node: -1, Life: least}},
		{[]int{greatest, 5000, -7}, api.Ballot{N: greatest, Node: 5000, Life: -7}},
	} {
		if got := note.Ballot(c.nums); got != c.want {
			t.Errorf("Ballot(%v): %v", c.nums, got)
		}
		// Numbers in the spare room are none.
		if got := note.Ballot(append(slices.Clone(c.nums), 1, 2, 3)[:len(c.nums)]); got != c.want {
			t.Errorf("Ballot(%v) with spare room: %v", c.nums, got)
		}
	}
}

// P5.1: a place of each two numbers, also of many; one that is left over is passed over.
func TestPlaces(t *testing.T) {
	for _, c := range []struct {
		nums []int
		want []api.Place
	}{
		{nil, nil},
		{[]int{}, nil},
		{[]int{5}, nil},
		{[]int{5, 6}, []api.Place{{Win: 5, Key: 6}}},
		{[]int{1, 2, 3}, []api.Place{{Win: 1, Key: 2}}},
		{[]int{least, greatest, -1, 0}, []api.Place{{Win: least, Key: greatest}, {Win: -1, Key: 0}}},
	} {
		if got := note.Places(c.nums); !slices.Equal(got, c.want) {
			t.Errorf("Places(%v): %v", c.nums, got)
		}
		if got := note.Places(append(slices.Clone(c.nums), 8, 9)[:len(c.nums)]); !slices.Equal(got, c.want) {
			t.Errorf("Places(%v) with spare room: %v", c.nums, got)
		}
	}
	for count := range 100 {
		nums := filled(count, count)
		var want []api.Place
		for rest := nums; len(rest) > 1; rest = rest[2:] {
			want = append(want, api.Place{Win: rest[0], Key: rest[1]})
		}
		if got := note.Places(nums); !slices.Equal(got, want) {
			t.Errorf("Places of %d numbers", count)
		}
	}
	if got := note.Places(make([]int, 1<<20+1)); len(got) != 1<<19 {
		t.Errorf("%d places of many numbers", len(got))
	}
}

// P5.1: the places' numbers, of any number of places; they are the same places again.
func TestSpread(t *testing.T) {
	if got := note.Spread(); len(got) != 0 {
		t.Errorf("Spread of none: %v", got)
	}
	if got := note.Spread([]api.Place{}...); len(got) != 0 {
		t.Errorf("Spread of an empty list: %v", got)
	}
	if got := note.Spread(api.Place{Win: 1, Key: -2}); !slices.Equal(got, []int{1, -2}) {
		t.Errorf("Spread of one: %v", got)
	}
	if got := note.Spread(api.Place{Win: least, Key: 4}, api.Place{}, api.Place{Win: 5, Key: greatest}); !slices.Equal(got, []int{least, 4, 0, 0, 5, greatest}) {
		t.Errorf("Spread of three: %v", got)
	}
	for count := range 50 {
		nums := filled(2*count, count)
		if got := note.Spread(note.Places(nums)...); !slices.Equal(got, nums) {
			t.Errorf("%d places spread again", count)
		}
	}
	if got := note.Spread(make([]api.Place, 1<<19)...); len(got) != 1<<20 {
		t.Errorf("%d numbers of many places", len(got))
	}
}

// roomy is a list with others in its spare room.
func roomy[T any](list []T, more T) []T {
	return append(slices.Clip(slices.Clone(list)), more, more, more)[:len(list)]
}

// all is a list with its spare room.
func all[T any](list []T) []T { return list[:cap(list)] }

// spacious is a note whose lists have spare room that isn't 0.
func spacious(n api.Note) api.Note {
	n.Nums = roomy(n.Nums, 77)
	n.Ops = roomy(n.Ops, api.Op{Seq: 7, Kind: 1, Time: 7, Key: 7, Value: 7})
	n.Entries = roomy(n.Entries, api.Entry{Place: api.Place{Win: 7, Key: 7}})
	return n
}

// everything is a note with the spare room of its lists.
func everything(n api.Note) api.Note {
	n.Nums, n.Ops, n.Entries = all(n.Nums), all(n.Ops), all(n.Entries)
	return n
}

// overwrite changes a note's lists and their spare room.
func overwrite(n api.Note) {
	n = everything(n)
	for i := range n.Nums {
		n.Nums[i] ^= 0x5a5a
	}
	for i := range n.Ops {
		n.Ops[i] = api.Op{Seq: ^n.Ops[i].Seq, Kind: 9, Time: ^n.Ops[i].Time, Key: ^n.Ops[i].Key, Value: ^n.Ops[i].Value}
	}
	for i := range n.Entries {
		n.Entries[i].Win ^= 0x5a5a
		n.Entries[i].Key ^= 0x5a5a
		n.Entries[i].Cell.Count ^= 0x5a5a
		n.Entries[i].Cell.Hist[5] ^= 0x5a5a
	}
}

// P5.4: notes that are handed in stay as they are, spare room included, and bytes stay as they are when the note is changed later.
func TestNotesAreNeitherChangedNorKept(t *testing.T) {
	wrong := whole()
	odd := api.Note{Kind: 7, Nums: []int{1, 2, 3}, Ops: []api.Op{{Kind: 3}}}
	for _, n := range append(small(), fullest(kinds()[6], least), fullest(kinds()[7], least), api.Note{}, wrong, odd) {
		in := spacious(n)
		before := twin(everything(in))
		note.Check(in)
		b, err := note.Encode(in)
		note.Same(in, in)
		note.Same(in, api.Note{})
		note.Ballot(in.Nums)
		note.Places(in.Nums)
		if !alike(everything(in), before) {
			t.Fatalf("Kind %d: what was handed in was changed", n.Kind)
		}
		kept := slices.Clone(b)
		overwrite(in)
		if !bytes.Equal(b, kept) {
			t.Fatalf("Kind %d: bytes changed with their note", n.Kind)
		}
		again, sameErr := note.Encode(spacious(n))
		if !bytes.Equal(again, kept) || err != sameErr {
			t.Fatalf("Kind %d: other bytes the second time", n.Kind)
		}
		for i := range all(b) {
			all(b)[i] ^= 0xa5
		}
		if !bytes.Equal(again, kept) {
			t.Fatalf("Kind %d: two answers share memory", n.Kind)
		}
	}
}

// P5.4: bytes that are handed in stay as they are, spare room included, and a note stays as it is when they are changed later.
func TestBytesAreNeitherChangedNorKept(t *testing.T) {
	for _, n := range append(small(), fullest(kinds()[6], least), fullest(kinds()[7], least)) {
		b := spelled(flat(n)...)
		in := roomy(b, 0x77)
		before := slices.Clone(all(in))
		got, _ := note.Decode(in)
		other, _ := note.Decode(in)
		note.Decode(all(in))
		note.Decode(in[:len(in)-1])
		if !bytes.Equal(all(in), before) {
			t.Fatalf("Kind %d: what was handed in was changed", n.Kind)
		}
		for i := range all(in) {
			all(in)[i] ^= 0xa5
		}
		if !alike(got, n) || !alike(other, n) {
			t.Fatalf("Kind %d: the note changed with its bytes", n.Kind)
		}
		changed := slices.Clone(all(in))
		overwrite(got)
		if !alike(other, n) || !bytes.Equal(all(in), changed) {
			t.Fatalf("Kind %d: an answer shares memory", n.Kind)
		}
		if again, err := note.Decode(b); !alike(again, n) || err != nil {
			t.Fatalf("Kind %d: another note the second time", n.Kind)
		}
	}
}

// P5.4: likewise numbers and places, of Ballot, Places and Spread.
func TestNumbersAndPlacesAreNeitherChangedNorKept(t *testing.T) {
	for count := range 9 {
		nums := roomy(filled(count, 1), 77)
		before := slices.Clone(all(nums))
		note.Ballot(nums)
		places := note.Places(nums)
		other := note.Places(nums)
		kept := slices.Clone(places)
		if !slices.Equal(all(nums), before) {
			t.Fatal("numbers were changed")
		}
		clear(all(nums))
		if !slices.Equal(places, kept) {
			t.Fatal("places changed with their numbers")
		}
		list := roomy(kept, api.Place{Win: 7, Key: 7})
		ahead := slices.Clone(all(list))
		spread := note.Spread(list...)
		twice := note.Spread(list...)
		if !slices.Equal(all(list), ahead) {
			t.Fatal("places were changed")
		}
		clear(all(list))
		clear(all(places))
		if !slices.Equal(other, kept) || !slices.Equal(spread, before[:len(spread)]) {
			t.Fatal("an answer changed with something else")
		}
		clear(all(spread))
		if !slices.Equal(twice, before[:2*len(kept)]) {
			t.Fatal("two answers share memory")
		}
	}
}
