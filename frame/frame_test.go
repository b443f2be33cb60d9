package frame_test

import (
	"bytes"
	"encoding/binary"
	"hash/fnv"
	"math"
	"math/big"
	"slices"
	"testing"

	"estuary/api"
	"estuary/frame"
)

const (
	least    = math.MinInt
	greatest = math.MaxInt
)

// The model of these tests: numbers without a bound of package big, the library's sum and its way to write words.

// form is a number's bytes by the model.
func form(n int) []byte {
	turned := new(big.Int).Mul(big.NewInt(int64(n)), big.NewInt(2))
	if n < 0 {
		turned.Neg(turned).Sub(turned, big.NewInt(1))
	}
	b := turned.Bytes()
	slices.Reverse(b)
	return append([]byte{byte(len(b))}, b...)
}

// forms is the bytes of numbers by the model, one behind the other.
func forms(nums []int) []byte {
	var b []byte
	for _, n := range nums {
		b = append(b, form(n)...)
	}
	return b
}

// first is the number that bytes begin with by the model: the one whose form they begin with.
func first(b []byte) (n int, rest []byte, ok bool) {
	for size := 1; size <= 9 && size <= len(b); size++ {
		low := slices.Clone(b[1:size])
		slices.Reverse(low)
		turned := new(big.Int).SetBytes(low)
		half := new(big.Int).Rsh(turned, 1)
		if turned.Bit(0) == 1 {
			half.Not(half)
		}
		if n := int(half.Int64()); bytes.Equal(form(n), b[:size]) {
			return n, b[size:], true
		}
	}
	return 0, nil, false
}

// fold is the sum of bytes by the model.
func fold(b []byte) uint32 {
	h := fnv.New32a()
	h.Write(b)
	return h.Sum32()
}

// framed is the frame of bytes by the model, whatever its size.
func framed(b []byte) []byte {
	out := binary.LittleEndian.AppendUint32(nil, uint32(len(b)))
	out = binary.LittleEndian.AppendUint32(out, fold(b))
	return append(out, b...)
}

// opened is the bytes of the frame that bytes begin with by the model: of the one that is a frame's form.
func opened(b []byte) (in, rest []byte, ok bool) {
	if len(b) < 8 {
		return nil, nil, false
	}
	size := 8 + int(binary.LittleEndian.Uint32(b))
	if size > 16384 || size > len(b) || !bytes.Equal(framed(b[8:size]), b[:size]) {
		return nil, nil, false
	}
	return b[8:size], b[size:], true
}

// cut is Split by the model.
func cut(b []byte) (frames [][]byte, size int) {
	all := len(b)
	for {
		in, rest, ok := opened(b)
		if !ok {
			return frames, all - len(b)
		}
		frames, b = append(frames, in), rest
	}
}

// scramble is a row of numbers that looks like none: the same at each run.
func scramble(seed uint64) uint64 {
	seed = (seed ^ seed>>30) * 0xbf58476d1ce4e5b9
	seed = (seed ^ seed>>27) * 0x94d049bb133111eb
	return seed ^ seed>>31
}

// filled is so many bytes that look like none.
func filled(size, seed int) []byte {
	b := make([]byte, size)
	for i := range b {
		b[i] = byte(scramble(uint64(seed)<<32 + uint64(i) + 1))
	}
	return b
}

// numbers is numbers at each edge of their bytes, and some between.
func numbers() []int {
	list := []int{0, least, greatest}
	for bit := range 63 {
		for near := -2; near <= 2; near++ {
			list = append(list, 1<<bit+near, -1<<bit+near, least+1<<bit+near, greatest-1<<bit+near)
		}
	}
	for i := range 500 {
		n := int(scramble(uint64(i) + 1))
		list = append(list, n>>(i%64))
	}
	slices.Sort(list)
	return slices.Compact(list)
}

// P4.1: the chapter's bytes, and those at the edges of one byte.
func TestPutOfWrittenCases(t *testing.T) {
	for _, c := range []struct {
		out  string
		nums []int
		want string
	}{
		{"", nil, ""},
		{"", []int{}, ""},
		{"x", nil, "x"},
		{"", []int{0, -1, 1, -300}, "\x00\x01\x01\x01\x02\x02\x57\x02"},
		{"\x09", []int{0}, "\x09\x00"},
		{"ab", []int{-2}, "ab\x01\x03"},
		{"", []int{127}, "\x01\xfe"},
		{"", []int{-128}, "\x01\xff"},
		{"", []int{128}, "\x02\x00\x01"},
		{"", []int{-129}, "\x02\x01\x01"},
		{"", []int{1 << 15}, "\x03\x00\x00\x01"},
		{"", []int{1 << 55}, "\x08\x00\x00\x00\x00\x00\x00\x00\x01"},
		{"", []int{1<<55 - 1}, "\x07\xfe\xff\xff\xff\xff\xff\xff"},
		{"", []int{-1 << 55}, "\x07\xff\xff\xff\xff\xff\xff\xff"},
		{"", []int{greatest}, "\x08\xfe\xff\xff\xff\xff\xff\xff\xff"},
		{"", []int{least}, "\x08\xff\xff\xff\xff\xff\xff\xff\xff"},
		{"", []int{1 << 62, 0}, "\x08\x00\x00\x00\x00\x00\x00\x00\x80\x00"},
	} {
		if got := frame.Put([]byte(c.out), c.nums...); string(got) != c.want {
			t.Errorf("Put(%q, %v): %x, want %x", c.out, c.nums, got, c.want)
		}
	}
	if got := frame.Put(nil); len(got) != 0 {
		t.Errorf("Put of nothing: %x", got)
	}
}

// P4.1: each number's bytes are the model's, alone and in a row.
func TestPutAgainstTheModel(t *testing.T) {
	for _, n := range numbers() {
		if got := frame.Put(nil, n); !bytes.Equal(got, form(n)) {
			t.Fatalf("Put(%d): %x, want %x", n, got, form(n))
		}
	}
	ahead := []byte("ahead")
	if got := frame.Put(ahead, numbers()...); !bytes.Equal(got, append([]byte("ahead"), forms(numbers())...)) {
		t.Error("a row of numbers")
	}
}

// P4.1: what begins with a number, and what begins with none.
func TestTakeOfWrittenCases(t *testing.T) {
	for _, c := range []struct {
		b    string
		n    int
		rest string
		ok   bool
	}{
		{"\x00", 0, "", true},
		{"\x00\x00", 0, "\x00", true},
		{"\x01\x01", -1, "", true},
		{"\x01\x02behind", 1, "behind", true},
		{"\x02\x57\x02\x09", -300, "\x09", true},
		{"\x08\xfe\xff\xff\xff\xff\xff\xff\xff", greatest, "", true},
		{"\x08\xff\xff\xff\xff\xff\xff\xff\xff\xff", least, "\xff", true},
		{"\x02\x00\x01", 128, "", true},
		{"", 0, "", false},
		{"\x01", 0, "", false},
		{"\x01\x00", 0, "", false},
		{"\x01\x00\x01", 0, "", false},
		{"\x02\x05", 0, "", false},
		{"\x02\x05\x00", 0, "", false},
		{"\x02\x05\x00\x01", 0, "", false},
		{"\x08\x01\x02\x03\x04\x05\x06\x07", 0, "", false},
		{"\x08\x01\x02\x03\x04\x05\x06\x07\x00", 0, "", false},
		{"\x08\x00\x00\x00\x00\x00\x00\x00\x00\x01", 0, "", false},
		{"\x09\x01\x02\x03\x04\x05\x06\x07\x08\x09", 0, "", false},
		{"\x09\x01\x02\x03\x04\x05\x06\x07\x08\x00", 0, "", false},
		{"\x10\x01\x02\x03\x04\x05\x06\x07\x08\x09\x01\x02\x03\x04\x05\x06\x07", 0, "", false},
		{"\xff", 0, "", false},
		{"\xff" + string(bytes.Repeat([]byte{1}, 300)), 0, "", false},
		{"\x80" + string(bytes.Repeat([]byte{1}, 300)), 0, "", false},
	} {
		n, rest, err := frame.Take([]byte(c.b))
		if n != c.n || string(rest) != c.rest || (err == nil) != c.ok {
			t.Errorf("Take(%x): %d, %x, %v", c.b, n, rest, err)
		}
		if !c.ok && (err != api.ErrFrame || rest != nil) {
			t.Errorf("Take(%x): %x, %v", c.b, rest, err)
		}
	}
	if n, rest, err := frame.Take(nil); n != 0 || rest != nil || err != api.ErrFrame {
		t.Errorf("Take of nothing: %d, %x, %v", n, rest, err)
	}
}

// P4.1 and P4.2: of all short rows of bytes, and of rows of each count and highest byte, just those with a number's form are taken.
func TestTakeAgainstTheModel(t *testing.T) {
	check := func(b []byte) {
		n, rest, err := frame.Take(b)
		wantN, wantRest, ok := first(b)
		if n != wantN || !bytes.Equal(rest, wantRest) || (err == nil) != ok || err != nil && err != api.ErrFrame {
			t.Fatalf("Take(%x): %d, %x, %v, want %d, %x, %v", b, n, rest, err, wantN, wantRest, ok)
		}
	}
	check(nil)
	for a := range 256 {
		check([]byte{byte(a)})
		for b := range 256 {
			check([]byte{byte(a), byte(b)})
			check([]byte{2, byte(a), byte(b)})
		}
	}
	for count := range 12 {
		for size := range 13 {
			for _, high := range []byte{0, 1, 127, 128, 255} {
				b := append([]byte{byte(count)}, filled(size, count)...)
				if count < len(b) && count > 0 {
					b[count] = high
				}
				check(b)
			}
		}
	}
}

// P4.2: what is put is taken, whatever is behind it.
func TestPutIsTaken(t *testing.T) {
	for _, n := range numbers() {
		for _, behind := range []string{"", "\x00", "\x01", "\xff\xff", "behind"} {
			got, rest, err := frame.Take(append(frame.Put(nil, n), behind...))
			if got != n || string(rest) != behind || err != nil {
				t.Fatalf("%d: %d, %x, %v", n, got, rest, err)
			}
		}
	}
	b := frame.Put(nil, numbers()...)
	for i, n := range numbers() {
		got, rest, err := frame.Take(b)
		if got != n || err != nil {
			t.Fatalf("number %d, %d: %d, %v", i, n, got, err)
		}
		b = rest
	}
	if len(b) != 0 {
		t.Errorf("behind all numbers: %x", b)
	}
}

// P4.2: no number is taken of a part of its bytes.
func TestNumberIsCutAtEveryByte(t *testing.T) {
	for _, n := range numbers() {
		b := frame.Put(nil, n)
		for size := range len(b) {
			if got, rest, err := frame.Take(b[:size]); got != 0 || rest != nil || err != api.ErrFrame {
				t.Fatalf("%d, cut at %d: %d, %x, %v", n, size, got, rest, err)
			}
		}
	}
}

// P4.1: numbers, as many as may be, and bytes that are none.
func TestNumsOfWrittenCases(t *testing.T) {
	for _, c := range []struct {
		b    string
		most int
		want []int
		ok   bool
	}{
		{"", 0, nil, true},
		{"", 5, nil, true},
		{"", -1, nil, true},
		{"", least, nil, true},
		{"\x00", 1, []int{0}, true},
		{"\x00", 0, nil, false},
		{"\x00", -1, nil, false},
		{"\x00", least, nil, false},
		{"\x00\x01\x01\x01\x02\x02\x57\x02", 4, []int{0, -1, 1, -300}, true},
		{"\x00\x01\x01\x01\x02\x02\x57\x02", greatest, []int{0, -1, 1, -300}, true},
		{"\x00\x01\x01\x01\x02\x02\x57\x02", 3, nil, false},
		{"\x00\x01\x01\x01\x02\x02\x57", 4, nil, false},
		{"\x00\x01\x01\x01\x02\x02\x57\x02\x01", 9, nil, false},
		{"\x00\x01\x00", 9, nil, false},
		{"\x00\x09\x01\x02\x03\x04\x05\x06\x07\x08\x09", 99, nil, false},
		{"\x01\x00\x00", 9, nil, false},
	} {
		got, err := frame.Nums([]byte(c.b), c.most)
		if !slices.Equal(got, c.want) || (err == nil) != c.ok {
			t.Errorf("Nums(%x, %d): %v, %v", c.b, c.most, got, err)
		}
		if !c.ok && (err != api.ErrFrame || got != nil) {
			t.Errorf("Nums(%x, %d): %v, %v", c.b, c.most, got, err)
		}
	}
	if got, err := frame.Nums(nil, 0); len(got) != 0 || err != nil {
		t.Errorf("Nums of nothing: %v, %v", got, err)
	}
}

// P4.2: rows of numbers come back, at each most, and cut at every byte just where a number ends.
func TestNumsOfWhatWasPut(t *testing.T) {
	for size := range 40 {
		nums := make([]int, size)
		ends := map[int]int{0: 0}
		var b []byte
		for i := range nums {
			nums[i] = int(scramble(uint64(100*size+i+1))) >> (7 * i % 64)
			b = frame.Put(b, nums[i])
			ends[len(b)] = i + 1
		}
		for most := -2; most < size+3; most++ {
			got, err := frame.Nums(b, most)
			if fits := size <= max(most, 0); fits && (!slices.Equal(got, nums) || err != nil) || !fits && (got != nil || err != api.ErrFrame) {
				t.Fatalf("%v, at most %d: %v, %v", nums, most, got, err)
			}
		}
		for at := range len(b) {
			got, err := frame.Nums(b[:at], greatest)
			if k, whole := ends[at]; whole && (!slices.Equal(got, nums[:k]) || err != nil) || !whole && (got != nil || err != api.ErrFrame) {
				t.Fatalf("%v, cut at %d: %v, %v", nums, at, got, err)
			}
		}
	}
}

// P4.2: bytes that are numbers are those that Put writes of them.
func TestNumsHaveOneForm(t *testing.T) {
	taken := 0
	for seed := range 20000 {
		b := filled(seed%12, seed)
		for i := range b {
			b[i] %= byte(1 + seed%4)
		}
		nums, err := frame.Nums(b, 12)
		if err != nil {
			continue
		}
		taken++
		if again := frame.Put(nil, nums...); !bytes.Equal(again, b) {
			t.Fatalf("%x is %v, whose bytes are %x", b, nums, again)
		}
	}
	if taken < 1000 {
		t.Errorf("just %d rows of bytes were numbers", taken)
	}
}

// P4.1: the sum's first number, of bytes, of parts.
func TestSum(t *testing.T) {
	for _, c := range []struct {
		b    string
		want uint32
	}{
		{"", 2166136261},
		{"\x00", 0x050c5d1f},
		{"a", 0xe40c292c},
		{"foobar", 0xbf9cf968},
	} {
		if got := frame.Sum([]byte(c.b)); got != c.want {
			t.Errorf("Sum(%x): %x, want %x", c.b, got, c.want)
		}
	}
	if frame.Sum() != 2166136261 || frame.Sum(nil, nil) != 2166136261 || frame.Sum(nil, []byte("a"), []byte{}) != 0xe40c292c {
		t.Error("parts without bytes")
	}
	for size := range 70 {
		b := filled(size, size)
		for at := range size + 1 {
			if got := frame.Sum(b[:at], nil, b[at:]); got != fold(b) {
				t.Fatalf("Sum of %x in parts, cut at %d: %x", b, at, got)
			}
		}
	}
	if b := filled(100000, 1); frame.Sum(b) != fold(b) {
		t.Error("Sum of many bytes")
	}
}

// P4.1: a frame's bytes, of any parts.
func TestWrapOfWrittenCases(t *testing.T) {
	for _, c := range []struct {
		parts []string
		want  string
	}{
		{nil, "\x00\x00\x00\x00\xc5\x9d\x1c\x81"},
		{[]string{""}, "\x00\x00\x00\x00\xc5\x9d\x1c\x81"},
		{[]string{"", "", ""}, "\x00\x00\x00\x00\xc5\x9d\x1c\x81"},
		{[]string{"a"}, "\x01\x00\x00\x00\x2c\x29\x0c\xe4a"},
		{[]string{"foobar"}, "\x06\x00\x00\x00\x68\xf9\x9c\xbffoobar"},
		{[]string{"f", "", "oob", "ar"}, "\x06\x00\x00\x00\x68\xf9\x9c\xbffoobar"},
	} {
		var parts [][]byte
		for _, p := range c.parts {
			parts = append(parts, []byte(p))
		}
		if got, err := frame.Wrap(parts...); string(got) != c.want || err != nil {
			t.Errorf("Wrap(%q): %x, %v, want %x", c.parts, got, err, c.want)
		}
	}
	if got, err := frame.Wrap(nil, nil); string(got) != "\x00\x00\x00\x00\xc5\x9d\x1c\x81" || err != nil {
		t.Errorf("Wrap of nothing: %x, %v", got, err)
	}
}

// P4.1 and P4.2: what is wrapped is unwrapped, up to 16384 bytes in all, in parts and whole; one more is too many.
func TestWrapIsUnwrapped(t *testing.T) {
	for _, size := range []int{0, 1, 2, 7, 8, 9, 254, 255, 256, 257, 1000, 16374, 16375, 16376, 16377, 16378, 16384, 65535, 65536, 1 << 20} {
		b := filled(size, size)
		for _, at := range []int{0, 1, size / 2, size} {
			at = min(at, size)
			got, err := frame.Wrap(b[:at], nil, b[at:])
			if size > 16376 {
				if got != nil || err != api.ErrFull {
					t.Errorf("Wrap of %d bytes: %d, %v", size, len(got), err)
				}
				continue
			}
			if !bytes.Equal(got, framed(b)) || err != nil {
				t.Fatalf("Wrap of %d bytes, cut at %d: %v", size, at, err)
			}
			in, rest, err := frame.Unwrap(got)
			if !bytes.Equal(in, b) || len(rest) != 0 || err != nil {
				t.Errorf("Unwrap of %d bytes: %v", size, err)
			}
		}
	}
}

// P4.1: many parts: just the frame that is too long is refused, whichever part it is that is too many.
func TestWrapOfManyParts(t *testing.T) {
	one := []byte{7}
	parts := slices.Repeat([][]byte{one}, 16376)
	got, err := frame.Wrap(parts...)
	if !bytes.Equal(got, framed(bytes.Repeat(one, 16376))) || err != nil {
		t.Errorf("as many parts as may be: %v", err)
	}
	for at := 0; at <= len(parts); at += 4094 {
		if got, err := frame.Wrap(slices.Insert(slices.Clone(parts), at, one)...); got != nil || err != api.ErrFull {
			t.Errorf("one part more: %d, %v", len(got), err)
		}
		if got, err := frame.Wrap(slices.Insert(slices.Clone(parts), at, nil)...); len(got) != 16384 || err != nil {
			t.Errorf("one empty part more: %d, %v", len(got), err)
		}
	}
	great := make([]byte, 1<<20)
	if got, err := frame.Wrap(slices.Repeat([][]byte{great}, 1<<16)...); got != nil || err != api.ErrFull {
		t.Errorf("parts that share their bytes: %d, %v", len(got), err)
	}
}

// P4.1 and P4.2: bytes behind a frame are answered, whatever they are.
func TestUnwrapWithBytesBehind(t *testing.T) {
	empty := framed(nil)
	for _, in := range [][]byte{nil, []byte("hi"), empty, filled(16376, 1)} {
		for _, behind := range [][]byte{nil, {0}, empty, framed([]byte("hi")), filled(20000, 2)} {
			got, rest, err := frame.Unwrap(slices.Concat(framed(in), behind))
			if !bytes.Equal(got, in) || !bytes.Equal(rest, behind) || err != nil {
				t.Errorf("%d bytes with %d behind: %d, %d, %v", len(in), len(behind), len(got), len(rest), err)
			}
		}
	}
}

// none checks that bytes begin with no frame.
func none(t *testing.T, why string, b []byte) {
	t.Helper()
	if in, rest, err := frame.Unwrap(b); in != nil || rest != nil || err != api.ErrFrame {
		t.Errorf("%s: Unwrap: %d, %d, %v", why, len(in), len(rest), err)
	}
	if frames, size := frame.Split(b); len(frames) != 0 || size != 0 {
		t.Errorf("%s: Split: %d, %d", why, len(frames), size)
	}
}

// P4.1 and P4.2: no frame: too short, of another count or sum, too long in all.
func TestUnwrapOfNoFrame(t *testing.T) {
	none(t, "nothing", nil)
	none(t, "no bytes", []byte{})
	none(t, "noughts", make([]byte, 100))
	for _, in := range [][]byte{nil, {0}, []byte("hi"), filled(300, 3)} {
		b := framed(in)
		for size := range len(b) {
			none(t, "cut", b[:size])
		}
		for bit := range 8 * len(b) {
			other := slices.Clone(b)
			other[bit/8] ^= 1 << (bit % 8)
			none(t, "another bit", other)
			none(t, "another bit, with bytes behind", append(other, filled(400, 4)...))
		}
	}
	// Counts above the limit, with the sum that bytes of that count have.
	for _, size := range []int{16377, 16378, 16384, 1 << 16, 1<<16 + 2, 1 << 17, 1 << 24} {
		none(t, "too long", framed(make([]byte, size)))
	}
	for _, count := range []uint32{16377, 1 << 15, 1 << 31, 1<<31 + 2, 1<<32 - 8, 1<<32 - 6, 1<<32 - 1} {
		for _, in := range []string{"", "hi"} {
			b := framed([]byte(in))
			binary.LittleEndian.PutUint32(b, count)
			none(t, "a great count", b)
			none(t, "a great count, with bytes behind", append(b, make([]byte, 40000)...))
		}
	}
	// The words in another order of their bytes, and the words the other way round.
	b := framed([]byte("hi"))
	none(t, "highest first", slices.Concat([]byte{b[3], b[2], b[1], b[0], b[7], b[6], b[5], b[4]}, b[8:]))
	none(t, "sum first", slices.Concat(b[4:8], b[:4], b[8:]))
}

// P4.1 and P4.2: of bytes that are nearly frames, Unwrap and Split answer as the model; what is unwrapped and wrapped again is the same.
func TestFramesAgainstTheModel(t *testing.T) {
	for seed := range 3000 {
		var b []byte
		for i := range seed % 5 {
			b = append(b, framed(filled(int(scramble(uint64(seed+i)))&15, seed))...)
		}
		b = append(b, filled(seed%11, seed)...)
		if at := seed * 7; seed%3 == 0 && len(b) > 0 {
			b[at%len(b)] ^= byte(seed)
		}
		in, rest, err := frame.Unwrap(b)
		wantIn, wantRest, ok := opened(b)
		if !bytes.Equal(in, wantIn) || !bytes.Equal(rest, wantRest) || (err == nil) != ok || err != nil && err != api.ErrFrame {
			t.Fatalf("Unwrap(%x): %x, %x, %v", b, in, rest, err)
		}
		if again, _ := frame.Wrap(in); ok && !bytes.Equal(append(again, rest...), b) {
			t.Fatalf("Unwrap(%x), wrapped again: %x", b, again)
		}
		frames, size := frame.Split(b)
		wantFrames, wantSize := cut(b)
		if !slices.EqualFunc(frames, wantFrames, bytes.Equal) || size != wantSize {
			t.Fatalf("Split(%x): %x, %d", b, frames, size)
		}
	}
}

// P4.3: of frames one behind the other, cut at every byte, just the whole ones.
func TestSplitIsCutAtEveryByte(t *testing.T) {
	parts := [][]byte{[]byte("hi"), nil, filled(300, 5), {0}, nil, framed([]byte("within")), filled(16376, 6), nil}
	var all []byte
	var ends []int
	for _, p := range parts {
		b, err := frame.Wrap(p)
		if err != nil {
			t.Fatal(err)
		}
		all = append(all, b...)
		ends = append(ends, len(all))
	}
	for at := range len(all) + 1 {
		want, size := 0, 0
		for i, end := range ends {
			if end <= at {
				want, size = i+1, end
			}
		}
		frames, got := frame.Split(all[:at])
		if !slices.EqualFunc(frames, parts[:want], bytes.Equal) || got != size {
			t.Fatalf("cut at %d: %d frames of %d bytes, want %d of %d", at, len(frames), got, want, size)
		}
	}
}

// P4.1 and P4.3: frames up to the first one that is none, though others come behind it.
func TestSplitEndsAtTheFirstThatIsNone(t *testing.T) {
	a, b := framed([]byte("a")), framed(nil)
	for _, wrong := range [][]byte{{0}, make([]byte, 8), append(framed(nil), 1), framed(make([]byte, 16377))} {
		all := slices.Concat(a, b, a, wrong, a, b)
		want, size := cut(all)
		frames, got := frame.Split(all)
		if !slices.EqualFunc(frames, want, bytes.Equal) || got != size || len(frames) < 3 || len(frames) > 4 {
			t.Errorf("%x: %x, %d", wrong, frames, got)
		}
	}
	if frames, size := frame.Split(nil); len(frames) != 0 || size != 0 {
		t.Errorf("of nothing: %v, %d", frames, size)
	}
}

// P4.1: long rows are gone through once: a call that copied the rest at each step wouldn't come to its end here.
func TestLongRows(t *testing.T) {
	const many = 1 << 20
	nums, err := frame.Nums(make([]byte, many), many)
	if len(nums) != many || err != nil {
		t.Errorf("%d numbers, %v", len(nums), err)
	}
	all := bytes.Repeat(framed(nil), many)
	frames, size := frame.Split(all)
	if len(frames) != many || size != len(all) {
		t.Errorf("%d frames of %d bytes", len(frames), size)
	}
}

// roomy is bytes with others in their spare room; whole is both.
func roomy(b []byte) (part, whole []byte) {
	whole = append(slices.Clone(b), filled(64, 9)...)
	return whole[:len(b)], whole
}

// scribble overwrites bytes and their spare room.
func scribble(b []byte) {
	b = b[:cap(b)]
	for i := range b {
		b[i] ^= 0xa5
	}
}

// apart checks that bytes in and bytes out share nothing: neither those handed in are changed by a call and by what is done to its answers, nor an answer by what is done to them and to the other answers.
func apart(t *testing.T, name string, in []byte, call func(b []byte) [][]byte) {
	t.Helper()
	copies := func(list [][]byte) [][]byte {
		var out [][]byte
		for _, b := range list {
			out = append(out, slices.Clone(b))
		}
		return out
	}
	part, whole := roomy(in)
	before := slices.Clone(whole)
	answers := call(part)
	if !bytes.Equal(whole, before) {
		t.Fatalf("%s changed what was handed in, or its spare room", name)
	}
	kept := copies(answers)
	scribble(whole)
	if !slices.EqualFunc(answers, kept, bytes.Equal) {
		t.Fatalf("%s: an answer changed with what was handed in", name)
	}
	scribbled := slices.Clone(whole)
	for i := range answers {
		scribble(answers[i])
		for k := i + 1; k < len(answers); k++ {
			if !bytes.Equal(answers[k], kept[k]) {
				t.Fatalf("%s: answers %d and %d share memory", name, i, k)
			}
		}
	}
	if !bytes.Equal(whole, scribbled) {
		t.Fatalf("%s: an answer shares memory with what was handed in", name)
	}
	// The same bytes again: nothing was kept of the first call.
	if part, _ := roomy(in); !slices.EqualFunc(call(part), kept, bytes.Equal) {
		t.Fatalf("%s answers otherwise the second time", name)
	}
}

// P4.4: bytes that are handed in stay as they are and share nothing with answers, nor these with each other.
func TestBytesAreNeitherChangedNorKept(t *testing.T) {
	two := slices.Concat(framed([]byte("one")), framed(nil), framed([]byte("three")), []byte("behind"))
	for _, in := range [][]byte{nil, []byte("ahead"), frame.Put(nil, 0, -1, 300, least), filled(100, 8), framed(filled(40, 8)), two} {
		apart(t, "Put", in, func(b []byte) [][]byte { return [][]byte{frame.Put(b, 1, -300, greatest)} })
		apart(t, "Put of no number", in, func(b []byte) [][]byte { return [][]byte{frame.Put(b)} })
		apart(t, "Take", in, func(b []byte) [][]byte {
			_, rest, _ := frame.Take(b)
			return [][]byte{rest}
		})
		apart(t, "Nums", in, func(b []byte) [][]byte {
			frame.Nums(b, 100)
			return nil
		})
		apart(t, "Sum", in, func(b []byte) [][]byte {
			frame.Sum(b, b)
			return nil
		})
		apart(t, "Wrap", in, func(b []byte) [][]byte {
			out, _ := frame.Wrap(b, b)
			return [][]byte{out}
		})
		apart(t, "Wrap of one part", in, func(b []byte) [][]byte {
			out, _ := frame.Wrap(b)
			return [][]byte{out}
		})
		apart(t, "Unwrap", in, func(b []byte) [][]byte {
			in, rest, _ := frame.Unwrap(b)
			return [][]byte{in, rest}
		})
		apart(t, "Split", in, func(b []byte) [][]byte {
			frames, _ := frame.Split(b)
			return frames
		})
	}
}

// P4.4: the lists of numbers and of parts stay as they are, with their spare room.
func TestListsAreNotChanged(t *testing.T) {
	nums := []int{1, -2, least, greatest, 55, 66}
	if frame.Put(nil, nums[:4]...); !slices.Equal(nums, []int{1, -2, least, greatest, 55, 66}) {
		t.Errorf("Put: %v", nums)
	}
	parts := [][]byte{[]byte("a"), nil, []byte("bc"), []byte("spare")}
	want := [][]byte{[]byte("a"), nil, []byte("bc"), []byte("spare")}
	frame.Sum(parts[:3]...)
	if _, err := frame.Wrap(parts[:3]...); err != nil || !slices.EqualFunc(parts, want, bytes.Equal) {
		t.Errorf("Wrap: %q, %v", parts, err)
	}
}

// P4.4: numbers that were answered stay as they are when the next ones are.
func TestNumsAreNewMemory(t *testing.T) {
	b := frame.Put(nil, 1, 2, 3)
	one, _ := frame.Nums(b, 3)
	two, _ := frame.Nums(b, 3)
	one[0] = 9
	scribble(b)
	if !slices.Equal(two, []int{1, 2, 3}) || !slices.Equal(one, []int{9, 2, 3}) {
		t.Error(one, two)
	}
}

// P4.4: two answers of the same bytes share nothing, one behind the other.
func TestAnswersOfTwoCallsShareNothing(t *testing.T) {
	b := framed([]byte("in"))
	for _, call := range []func() []byte{
		func() []byte { return frame.Put(b, 7) },
		func() []byte { out, _ := frame.Wrap(b); return out },
		func() []byte { out, _, _ := frame.Unwrap(b); return out },
		func() []byte { out, _ := frame.Split(b); return out[0] },
	} {
		one, two := call(), call()
		want := slices.Clone(two)
		scribble(one)
		if !bytes.Equal(two, want) {
			t.Errorf("%x, want %x", two, want)
		}
	}
}
