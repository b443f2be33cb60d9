package diary_test

import (
	"bytes"
	"encoding/binary"
	"fmt"
	"hash/fnv"
	"math"
	"slices"
	"strconv"
	"strings"
	"testing"

	"estuary/api"
	"estuary/diary"
	"estuary/tape"
)

// As the chapters write them.
const (
	greatest = math.MaxInt
	head     = 8         // bytes of a frame ahead of its row
	longest  = 16384 - 8 // bytes of the longest row that has a frame
	most     = 1 << 20   // bytes of a tape
)

// framed is a row's frame, by chapter 4's words and the library's sum.
func framed(row string) string {
	sum := fnv.New32a()
	sum.Write([]byte(row))
	b := binary.LittleEndian.AppendUint32(nil, uint32(len(row)))
	b = binary.LittleEndian.AppendUint32(b, sum.Sum32())
	return string(b) + row
}

// frames is the frames of rows, one behind the other.
func frames(rows ...string) string {
	var all strings.Builder
	for _, row := range rows {
		all.WriteString(framed(row))
	}
	return all.String()
}

// begun is the rows of the frames that bytes begin with.
func begun(all string) []string {
	var rows []string
	for len(all) >= head {
		count := int(binary.LittleEndian.Uint32([]byte(all)))
		if count > longest || count > len(all)-head || framed(all[head:head+count]) != all[:head+count] {
			break
		}
		rows = append(rows, all[head:head+count])
		all = all[head+count:]
	}
	return rows
}

// disk is a tape by chapter 6's words, with sure and other bytes apart; arm and fail are -1 where there is none.
type disk struct {
	sure, loose string
	arm, fail   int
	steps       int
	gone        bool
}

func newDisk() *disk { return &disk{arm: -1, fail: -1} }

func (k *disk) step() error {
	k.gone = k.gone || k.arm == 0
	if k.gone {
		return api.ErrDown
	}
	refuses := k.fail == 0
	k.arm, k.fail = max(k.arm-1, -1), max(k.fail-1, -1)
	k.steps++
	if refuses {
		return api.ErrDisk
	}
	return nil
}

func (k *disk) append(more string) error {
	if len(k.sure)+len(k.loose)+len(more) > most {
		return api.ErrFull
	}
	err := k.step()
	if err == nil {
		k.loose += more
	}
	return err
}

func (k *disk) sync() error {
	err := k.step()
	if err == nil {
		k.sure, k.loose = k.sure+k.loose, ""
	}
	return err
}

func (k *disk) replace(all string) error {
	err := k.step()
	if err == nil {
		k.sure, k.loose = all, ""
	}
	return err
}

func (k *disk) crash(keep int) {
	k.sure += k.loose[:min(max(keep, 0), len(k.loose))]
	k.loose, k.gone, k.arm, k.fail = "", false, -1, -1
}

// book is a diary by its chapter's words. It holds the rows themselves, so that nothing is counted along with them.
type book struct {
	disk *disk
	rows []string
}

func open(k *disk) (*book, []string, error) {
	if k.gone {
		return nil, nil, api.ErrDown
	}
	rows := begun(k.sure + k.loose)
	if all := frames(rows...); all != k.sure+k.loose {
		if err := k.replace(all); err != nil {
			return nil, nil, err
		}
	}
	return &book{k, rows}, rows, nil
}

func (b *book) add(row string) error {
	if len(row) > longest {
		return api.ErrFull
	}
	if b == nil {
		return api.ErrDown
	}
	err := b.disk.append(framed(row))
	if err == api.ErrFull {
		return err
	}
	if err == nil {
		err = b.disk.sync()
	}
	if err == nil {
		b.rows = append(slices.Clip(b.rows), row)
	} else if !b.disk.gone {
		b.disk.loose = ""
	}
	return err
}

func (b *book) rewrite(rows ...string) error {
	for _, row := range rows {
		if len(row) > longest {
			return api.ErrFull
		}
	}
	if b == nil {
		return api.ErrDown
	}
	all := frames(rows...)
	if len(all) > most {
		return api.ErrFull
	}
	err := b.disk.replace(all)
	if err == nil {
		b.rows = rows
	}
	return err
}

func (b *book) shape() (count, size int) {
	if b == nil {
		return 0, 0
	}
	return len(b.rows), len(frames(b.rows...))
}

// pair is a tape and its diary beside their models.
type pair struct {
	tape  *tape.Tape
	diary *diary.Diary
	disk  *disk
	book  *book
}

// newPair is a pair that is open, without rows.
func newPair() *pair {
	p := &pair{tape: tape.New(), disk: newDisk()}
	p.open()
	return p
}

// answer is what a call answered: an error, and rows.
type answer struct {
	err  error
	rows []string
}

func (a answer) same(b answer) bool { return a.err == b.err && slices.Equal(a.rows, b.rows) }

func (p *pair) open() (got, want answer) {
	var rows [][]byte
	p.diary, rows, got.err = diary.Open(p.tape)
	got.rows = texts(rows)
	p.book, want.rows, want.err = open(p.disk)
	return got, want
}

func (p *pair) add(row string) (got, want answer) {
	return answer{err: p.diary.Add([]byte(row))}, answer{err: p.book.add(row)}
}

func (p *pair) rewrite(rows ...string) (got, want answer) {
	return answer{err: p.diary.Rewrite(lists(rows)...)}, answer{err: p.book.rewrite(rows...)}
}

func (p *pair) arm(n int) (got, want answer) {
	p.disk.arm = n
	return answer{err: p.tape.Arm(n)}, answer{}
}

func (p *pair) fail(n int) (got, want answer) {
	p.disk.fail = n
	return answer{err: p.tape.Fail(n)}, answer{}
}

func (p *pair) crash(keep int) (got, want answer) {
	p.tape.Crash(keep)
	p.disk.crash(keep)
	return answer{}, answer{}
}

// spoil lays bytes on the tape that needn't be a frame's, and opens it.
func (p *pair) spoil(more string, sync bool) (got, want answer) {
	got.err, want.err = p.tape.Append([]byte(more)), p.disk.append(more)
	if got.err == nil && want.err == nil && sync {
		got.err, want.err = p.tape.Sync(), p.disk.sync()
	}
	if got.err != want.err {
		return got, want
	}
	return p.open()
}

func texts(rows [][]byte) []string {
	var list []string
	for _, row := range rows {
		list = append(list, string(row))
	}
	return list
}

func lists(rows []string) [][]byte {
	var list [][]byte
	for _, row := range rows {
		list = append(list, []byte(row))
	}
	return list
}

// call is a call with its arguments, at a place in a row of calls: so rows of different calls differ.
type call struct {
	name string
	do   func(p *pair, at int) (got, want answer)
}

// letters is a row of so many bytes that tell where it was handed in.
func letters(at, count int) string { return strings.Repeat(string(rune('a'+at%26)), count) }

// calls is each call with each kind of arguments, and what may happen to the tape in between.
func calls() []call {
	list := []call{
		{"Open", func(p *pair, at int) (answer, answer) { return p.open() }},
		{"Add(0)", func(p *pair, at int) (answer, answer) { return p.add("") }},
		{"Add(1)", func(p *pair, at int) (answer, answer) { return p.add(letters(at, 1)) }},
		{"Add(5)", func(p *pair, at int) (answer, answer) { return p.add(letters(at, 5)) }},
		{"Add(too long)", func(p *pair, at int) (answer, answer) { return p.add(letters(at, longest+1)) }},
		{"Rewrite()", func(p *pair, at int) (answer, answer) { return p.rewrite() }},
		{"Rewrite(2, 0)", func(p *pair, at int) (answer, answer) { return p.rewrite(letters(at, 2), "") }},
		{"Rewrite(1, too long)", func(p *pair, at int) (answer, answer) {
			return p.rewrite(letters(at, 1), letters(at, longest+1))
		}},
		{"other bytes, Open", func(p *pair, at int) (answer, answer) { return p.spoil("other bytes", true) }},
		{"a frame, Open", func(p *pair, at int) (answer, answer) { return p.spoil(framed(letters(at, 3)), false) }},
	}
	for n := range 4 {
		text := strconv.Itoa(n)
		list = append(list,
			call{"Arm(" + text + ")", func(p *pair, at int) (answer, answer) { return p.arm(n) }},
			call{"Fail(" + text + ")", func(p *pair, at int) (answer, answer) { return p.fail(n) }},
		)
	}
	for _, keep := range []int{0, 3, 9, greatest} {
		name := "Crash(" + strconv.Itoa(keep) + ")"
		list = append(list, call{name, func(p *pair, at int) (answer, answer) { return p.crash(keep) }})
	}
	return list
}

// great is calls of rows near the limits, of a frame and of a tape.
func great() []call {
	var full []string
	for i := range 65 {
		full = append(full, letters(i, longest))
	}
	return []call{
		{"Add(longest)", func(p *pair, at int) (answer, answer) { return p.add(letters(at, longest)) }},
		{"Add(longest but 8)", func(p *pair, at int) (answer, answer) { return p.add(letters(at, longest-head)) }},
		{"Add(longest but 7)", func(p *pair, at int) (answer, answer) { return p.add(letters(at, longest-head+1)) }},
		{"Rewrite(63 longest)", func(p *pair, at int) (answer, answer) { return p.rewrite(full[:63]...) }},
		{"Rewrite(64 longest)", func(p *pair, at int) (answer, answer) { return p.rewrite(full[:64]...) }},
		{"Rewrite(65 longest)", func(p *pair, at int) (answer, answer) { return p.rewrite(full...) }},
	}
}

// names is the names of a row's calls.
func names(row []call) []string {
	var list []string
	for _, c := range row {
		list = append(list, c.name)
	}
	return list
}

// brief is bytes, or rows, for a message: how many they are, and how they begin.
func brief(texts ...string) string {
	var all []string
	for _, text := range texts[:min(len(texts), 8)] {
		all = append(all, fmt.Sprintf("%.30q (%d)", text, len(text)))
	}
	return fmt.Sprintf("%d of %v", len(texts), all)
}

// follow makes a row of calls of a pair, and checks that both answer the same, and hold the same behind each call.
func follow(t *testing.T, p *pair, row []call) {
	t.Helper()
	for i, c := range row {
		got, want := c.do(p, i)
		if !got.same(want) {
			t.Fatalf("%q: %v, %s, want %v, %s", names(row[:i+1]), got.err, brief(got.rows...), want.err, brief(want.rows...))
		}
		compare(t, p, row[:i+1])
	}
}

// compare checks that a pair's diary and tape tell what the models do.
func compare(t *testing.T, p *pair, row []call) {
	t.Helper()
	if (p.diary == nil) != (p.book == nil) {
		t.Fatalf("%q: there is a diary: %v", names(row), p.diary != nil)
	}
	if count, size := p.book.shape(); p.diary.Len() != count || p.diary.Bytes() != size {
		t.Fatalf("%q: Len %d, Bytes %d, want %d, %d", names(row), p.diary.Len(), p.diary.Bytes(), count, size)
	}
	k := p.disk
	if got, want := string(p.tape.Read()), k.sure+k.loose; got != want {
		t.Fatalf("%q: the tape has %s, want %s", names(row), brief(got), brief(want))
	}
	if p.tape.Sure() != len(k.sure) || p.tape.Steps() != k.steps || p.tape.Down() != k.gone {
		t.Fatalf("%q: the tape's Sure %d, Steps %d, Down %v, want %d, %d, %v", names(row), p.tape.Sure(), p.tape.Steps(), p.tape.Down(), len(k.sure), k.steps, k.gone)
	}
}

// scramble is a number that looks like none: the same at each run.
func scramble(seed int) int {
	x := uint64(seed) * 0x9e3779b97f4a7c15
	x = (x ^ x>>30) * 0xbf58476d1ce4e5b9
	x = (x ^ x>>27) * 0x94d049bb133111eb
	return int((x ^ x>>31) >> 1)
}

// chosen is a row of so many calls, in an order that looks like none.
func chosen(list []call, count, seed int) []call {
	row := make([]call, count)
	for i := range row {
		row[i] = list[scramble(seed<<12+i+1)%len(list)]
	}
	return row
}

// same checks an answer's error.
func same(t *testing.T, what string, got, want error) {
	t.Helper()
	if got != want {
		t.Errorf("%s: %v, want %v", what, got, want)
	}
}

// laid is a new tape with sure bytes.
func laid(t *testing.T, all string) *tape.Tape {
	t.Helper()
	x := tape.New()
	same(t, "Append", x.Append([]byte(all)), nil)
	x.Crash(greatest)
	return x
}

// opened is the diary of a tape, which must have just these rows.
func opened(t *testing.T, x *tape.Tape, want ...string) *diary.Diary {
	t.Helper()
	d, rows, err := diary.Open(x)
	if err != nil || !slices.Equal(texts(rows), want) {
		t.Fatalf("Open: %v, %s, want %s", err, brief(texts(rows)...), brief(want...))
	}
	shaped(t, d, want...)
	return d
}

// shut checks that Open answers an error, and nothing beside it.
func shut(t *testing.T, x *tape.Tape, want error) {
	t.Helper()
	if d, rows, err := diary.Open(x); d != nil || len(rows) != 0 || err != want {
		t.Errorf("Open: a diary: %v, %s, %v, want %v", d != nil, brief(texts(rows)...), err, want)
	}
}

// shaped checks how many rows a diary tells, and how many bytes.
func shaped(t *testing.T, d *diary.Diary, rows ...string) {
	t.Helper()
	size := 0
	for _, row := range rows {
		size += head + len(row)
	}
	if d.Len() != len(rows) || d.Bytes() != size {
		t.Errorf("Len %d, Bytes %d, want %d, %d", d.Len(), d.Bytes(), len(rows), size)
	}
}

// holds checks all that a tape tells.
func holds(t *testing.T, x *tape.Tape, all string, sure, steps int) {
	t.Helper()
	if got := string(x.Read()); got != all || x.Sure() != sure || x.Steps() != steps {
		t.Errorf("the tape has %s, Sure %d, Steps %d, want %s, %d, %d", brief(got), x.Sure(), x.Steps(), brief(all), sure, steps)
	}
}

// P7.1, P7.2: the chapter's example.
func TestExample(t *testing.T) {
	for keep := -1; keep < 12; keep++ {
		x := tape.New()
		d := opened(t, x)
		same(t, "Add(a)", d.Add([]byte("a")), nil)
		same(t, "Arm", x.Arm(1), nil)
		same(t, "Add(b)", d.Add([]byte("b")), api.ErrDown)
		x.Crash(keep)
		if keep >= len(framed("b")) {
			opened(t, x, "a", "b")
		} else {
			opened(t, x, "a")
		}
	}
}

// P7.1: every row of three calls, with each kind of arguments, answers as the model, and so does every row behind some rows and a power that is about to go.
func TestAllShortRows(t *testing.T) {
	list := calls()
	ahead := []call{list[2], list[3]}
	for _, a := range list {
		for _, b := range list {
			for _, c := range list {
				follow(t, newPair(), []call{a, b, c})
				follow(t, newPair(), append(slices.Clone(ahead), a, b, c))
				p := newPair()
				follow(t, p, ahead)
				p.arm(1)
				follow(t, p, []call{list[3], a, b, c})
			}
		}
	}
}

// P7.1: long rows of calls, in any order.
func TestLongRows(t *testing.T) {
	list := calls()
	for seed := range 2000 {
		follow(t, newPair(), chosen(list, 60, seed))
	}
	// Fewer calls that end what was there, so that more comes together in between.
	few := slices.DeleteFunc(calls(), func(c call) bool { return strings.HasPrefix(c.name, "Rewrite") || c.name == "Arm(0)" })
	for seed := range 500 {
		follow(t, newPair(), chosen(few, 120, seed))
	}
}

// P7.1: rows of calls at the limits.
func TestRowsAtTheLimits(t *testing.T) {
	list := append(calls(), great()...)
	list = append(list, great()...)
	for seed := range 40 {
		follow(t, newPair(), chosen(list, 20, seed))
	}
}

// P7.1: Open of nil and of a tape whose power is gone answers ErrDown; of one that is armed it doesn't, if there is nothing to replace.
func TestOpenWithoutPower(t *testing.T) {
	shut(t, nil, api.ErrDown)
	for _, all := range []string{"", frames("a", "b"), "other bytes"} {
		x := laid(t, all)
		same(t, "Arm", x.Arm(0), nil)
		same(t, "Sync", x.Sync(), api.ErrDown)
		shut(t, x, api.ErrDown)
		holds(t, x, all, len(all), 1)
	}
	x := laid(t, frames("a"))
	same(t, "Arm", x.Arm(0), nil)
	opened(t, x, "a")
	same(t, "Sync", x.Sync(), api.ErrDown)
}

// P7.1: Open of frames alone makes no step, whether they are sure or not; what isn't sure stays so.
func TestOpenOfFrames(t *testing.T) {
	for _, rows := range [][]string{
		nil, {""}, {"a"}, {"", "", ""}, {"a", "", "b", "a"}, {framed("a"), frames("b", "c")},
		{letters(0, longest)}, {letters(0, longest), "x", letters(1, longest)},
	} {
		all := frames(rows...)
		x := laid(t, all)
		opened(t, x, rows...)
		holds(t, x, all, len(all), 1)
		x = tape.New()
		same(t, "Append", x.Append([]byte(all)), nil)
		opened(t, x, rows...)
		holds(t, x, all, 0, 1)
	}
	many := strings.Repeat(framed(""), most/head)
	x := laid(t, many)
	opened(t, x, make([]string, most/head)...)
	holds(t, x, many, most, 1)
}

// others is bytes that begin with no frame.
func others() []string {
	wrong := []byte(framed("wrong sum"))
	wrong[head] ^= 1
	return []string{
		"x", "0123456", "other bytes", framed("")[:7], framed("cut")[:head+2],
		string(wrong), "x" + frames("behind", "it"), framed("cut")[:head+2] + framed("behind it"),
		// Its count and sum are right, but it is longer than a frame may be.
		framed(letters(0, longest+1)),
	}
}

// P7.1: other bytes, behind frames and alone, are replaced by the frames, sure, with one step; so they are gone for good, and with them frames that come behind.
func TestOpenOfOtherBytes(t *testing.T) {
	for _, rows := range [][]string{nil, {""}, {"a", "bc"}, {letters(0, longest)}} {
		for _, other := range others() {
			for _, sure := range []bool{true, false} {
				x := tape.New()
				same(t, "Append", x.Append([]byte(frames(rows...)), []byte(other)), nil)
				steps := 1
				if sure {
					same(t, "Sync", x.Sync(), nil)
					steps++
				}
				d := opened(t, x, rows...)
				all := frames(rows...)
				holds(t, x, all, len(all), steps+1)
				same(t, "Add", d.Add([]byte("next")), nil)
				x.Crash(0)
				opened(t, x, append(slices.Clone(rows), "next")...)
			}
		}
	}
}

// P7.1: where the tape refuses to be replaced, or its power goes, there is no diary, and the tape is as it was.
func TestOpenRefused(t *testing.T) {
	for _, rows := range [][]string{nil, {"a", "bc"}} {
		for _, other := range others() {
			all := frames(rows...) + other
			x := laid(t, all)
			same(t, "Fail", x.Fail(0), nil)
			shut(t, x, api.ErrDisk)
			holds(t, x, all, len(all), 2)
			same(t, "Arm", x.Arm(0), nil)
			shut(t, x, api.ErrDown)
			shut(t, x, api.ErrDown)
			holds(t, x, all, len(all), 2)
			// With both at once the power goes.
			x.Crash(0)
			same(t, "Fail", x.Fail(0), nil)
			same(t, "Arm", x.Arm(0), nil)
			shut(t, x, api.ErrDown)
			x.Crash(0)
			opened(t, x, rows...)
			holds(t, x, frames(rows...), len(frames(rows...)), 3)
		}
	}
}

// P7.1: Add appends the row's frame and syncs, an empty row's and the longest one's, too; of one byte more it answers ErrFull without a step.
func TestAdd(t *testing.T) {
	x := tape.New()
	d := opened(t, x)
	var rows []string
	for i, row := range []string{"", "a", "", framed("a"), letters(3, longest-1), letters(4, longest), "z"} {
		same(t, "Add", d.Add([]byte(row)), nil)
		rows = append(rows, row)
		shaped(t, d, rows...)
		holds(t, x, frames(rows...), len(frames(rows...)), 2*i+2)
		for _, wrong := range []int{longest + 1, longest + 2, longest + head, most, 4 * most} {
			same(t, "Add of a row that is too long", d.Add(make([]byte, wrong)), api.ErrFull)
		}
		shaped(t, d, rows...)
		holds(t, x, frames(rows...), len(frames(rows...)), 2*i+2)
	}
	same(t, "Add of nil", d.Add(nil), nil)
	opened(t, x, append(rows, "")...)
}

// P7.1: a row that just fits on the tape finds room, one of a byte more doesn't, and that makes no step.
func TestAddOfAFullTape(t *testing.T) {
	for _, left := range []int{head - 1, head, head + 1, 100, longest + head} {
		var rows []string
		for i := range 63 {
			rows = append(rows, letters(i, longest))
		}
		if first := longest - left; first >= 0 {
			rows = append(rows, letters(63, first))
		}
		x := tape.New()
		d := opened(t, x)
		same(t, "Rewrite", d.Rewrite(lists(rows)...), nil)
		all := frames(rows...)
		if most-len(all) != left {
			t.Fatal("there are left", most-len(all))
		}
		for _, row := range []int{max(left-head+1, 0), longest} {
			if row+head > left {
				same(t, "Add of a byte more", d.Add(make([]byte, row)), api.ErrFull)
			}
		}
		shaped(t, d, rows...)
		holds(t, x, all, len(all), 1)
		if left < head {
			continue
		}
		row := letters(64, left-head)
		same(t, "Add of what fits", d.Add([]byte(row)), nil)
		rows = append(rows, row)
		shaped(t, d, rows...)
		same(t, "Add of nothing to a full tape", d.Add(nil), api.ErrFull)
		holds(t, x, all+framed(row), most, 3)
		opened(t, x, rows...)
	}
}

// P7.1: ErrFull comes first: also where the power is gone, or the disk refuses, which is then still to come.
func TestFullComesFirst(t *testing.T) {
	var rows []string
	for i := range 64 {
		rows = append(rows, letters(i, longest))
	}
	x := tape.New()
	d := opened(t, x)
	same(t, "Rewrite", d.Rewrite(lists(rows)...), nil)
	refused := func() {
		t.Helper()
		same(t, "Add of a row that is too long", d.Add(make([]byte, longest+1)), api.ErrFull)
		same(t, "Add of a row without room", d.Add([]byte("x")), api.ErrFull)
		same(t, "Rewrite with a row that is too long", d.Rewrite(nil, make([]byte, longest+1), nil), api.ErrFull)
		same(t, "Rewrite without room", d.Rewrite(append(lists(rows), nil)...), api.ErrFull)
		shaped(t, d, rows...)
		holds(t, x, frames(rows...), most, x.Steps())
	}
	same(t, "Fail", x.Fail(0), nil)
	refused()
	same(t, "Rewrite", d.Rewrite(nil), api.ErrDisk)
	same(t, "Arm", x.Arm(0), nil)
	refused()
	same(t, "Rewrite", d.Rewrite(nil), api.ErrDown)
	refused()
	if x.Steps() != 2 {
		t.Errorf("%d steps, want 2", x.Steps())
	}
}

// P7.1, P7.3: an Add whose Append or Sync answers ErrDisk leaves the tape, Len and Bytes as they were; the next one is as any other.
func TestAddRefused(t *testing.T) {
	for _, rows := range [][]string{nil, {""}, {"a", "bc"}} {
		for _, row := range []string{"", "refused", letters(0, longest)} {
			for fail := range 2 {
				x := laid(t, frames(rows...))
				d := opened(t, x, rows...)
				all := frames(rows...)
				same(t, "Fail", x.Fail(fail), nil)
				same(t, "Add", d.Add([]byte(row)), api.ErrDisk)
				shaped(t, d, rows...)
				holds(t, x, all, len(all), 2+fail)
				opened(t, x, rows...)
				same(t, "Add", d.Add([]byte("next")), nil)
				x.Crash(greatest)
				opened(t, x, append(slices.Clone(rows), "next")...)
			}
		}
	}
}

// P7.1: an Add whose Append or Sync answers ErrDown leaves Len and Bytes as they were, and the tape but for a frame that isn't sure; so does each call up to the crash.
func TestAddWithoutPower(t *testing.T) {
	for _, rows := range [][]string{nil, {""}, {"a", "bc"}} {
		for _, row := range []string{"", "lost", letters(0, longest)} {
			for arm := range 2 {
				x := laid(t, frames(rows...))
				d := opened(t, x, rows...)
				all := frames(rows...)
				same(t, "Arm", x.Arm(arm), nil)
				tail := strings.Repeat(framed(row), arm)
				for range 3 {
					same(t, "Add", d.Add([]byte(row)), api.ErrDown)
					shaped(t, d, rows...)
					holds(t, x, all+tail, len(all), 1+arm)
					same(t, "Rewrite", d.Rewrite([]byte(row)), api.ErrDown)
					shut(t, x, api.ErrDown)
				}
			}
		}
	}
}

// P7.1: only with ErrDown and ErrDisk the tape is cut, as layer 6 does it: bytes that aren't sure are gone then, and stay with ErrFull and without power.
func TestCut(t *testing.T) {
	loose := func() (*tape.Tape, *diary.Diary) {
		x := laid(t, frames("sure"))
		same(t, "Append", x.Append([]byte(framed("loose"))), nil)
		return x, opened(t, x, "sure", "loose")
	}
	sure, all := len(frames("sure")), frames("sure", "loose")
	x, d := loose()
	same(t, "Add", d.Add(make([]byte, longest+1)), api.ErrFull)
	same(t, "Rewrite", d.Rewrite(make([]byte, longest+1)), api.ErrFull)
	holds(t, x, all, sure, 2)
	same(t, "Fail", x.Fail(0), nil)
	same(t, "Rewrite", d.Rewrite(), api.ErrDisk)
	holds(t, x, all, sure, 3)
	for range 63 {
		same(t, "Append", x.Append([]byte(framed(letters(0, longest)))), nil)
	}
	before := string(x.Read())
	same(t, "Add without room", d.Add(make([]byte, longest)), api.ErrFull)
	holds(t, x, before, sure, 66)
	for fail := range 2 {
		x, d := loose()
		same(t, "Fail", x.Fail(fail), nil)
		same(t, "Add", d.Add([]byte("refused")), api.ErrDisk)
		holds(t, x, frames("sure"), sure, 3+fail)
	}
	for arm := range 2 {
		x, d := loose()
		same(t, "Arm", x.Arm(arm), nil)
		same(t, "Add", d.Add([]byte("lost")), api.ErrDown)
		holds(t, x, all+strings.Repeat(framed("lost"), arm), sure, 2+arm)
	}
	x, d = loose()
	same(t, "Add", d.Add([]byte("next")), nil)
	holds(t, x, all+framed("next"), len(all+framed("next")), 4)
	shaped(t, d, "sure", "loose", "next")
}

// P7.1: Rewrite puts rows in the place of all others with one step, of none, too.
func TestRewrite(t *testing.T) {
	for _, before := range [][]string{nil, {""}, {"a", "bc"}} {
		for _, rows := range [][]string{nil, {""}, {"x"}, {"x", "", "yz", "x"}, {letters(0, longest), letters(1, longest)}} {
			x := laid(t, frames(before...))
			d := opened(t, x, before...)
			same(t, "Rewrite", d.Rewrite(lists(rows)...), nil)
			shaped(t, d, rows...)
			all := frames(rows...)
			holds(t, x, all, len(all), 2)
			same(t, "Add", d.Add([]byte("next")), nil)
			shaped(t, d, append(slices.Clone(rows), "next")...)
			x.Crash(0)
			opened(t, x, append(slices.Clone(rows), "next")...)
		}
	}
}

// P7.1, P7.3: where one of the rows is too long, wherever it stands, Rewrite answers ErrFull, and changes nothing, without a step.
func TestRewriteOfARowThatIsTooLong(t *testing.T) {
	x := laid(t, frames("a", "bc"))
	d := opened(t, x, "a", "bc")
	for count := 1; count < 5; count++ {
		for at := range count {
			for _, wrong := range []int{longest + 1, longest + head + 1, most} {
				rows := make([][]byte, count)
				rows[at] = make([]byte, wrong)
				same(t, "Rewrite", d.Rewrite(rows...), api.ErrFull)
			}
		}
	}
	shaped(t, d, "a", "bc")
	holds(t, x, frames("a", "bc"), len(frames("a", "bc")), 1)
	same(t, "Rewrite of the longest", d.Rewrite(nil, make([]byte, longest), nil), nil)
}

// P7.1: rows that together just find room are there, whatever was there ahead of them; with one byte more, and with one row more, it is ErrFull without a step.
func TestRewriteOfAFullTape(t *testing.T) {
	var full []string
	for i := range 64 {
		full = append(full, letters(i, longest))
	}
	for _, before := range [][]string{nil, {"a", "bc"}, full} {
		for _, last := range [][]int{{longest}, {longest - head, 0}, {0, 0, longest - 2*head}, {100, longest - head - 100}} {
			rows := slices.Clone(full[:63])
			for _, count := range last {
				rows = append(rows, letters(0, count))
			}
			x := laid(t, frames(before...))
			d := opened(t, x, before...)
			same(t, "Rewrite of one row more", d.Rewrite(append(lists(rows), nil)...), api.ErrFull)
			more := lists(rows)
			if at := len(more) - 1; len(more[at]) < longest {
				more[at] = append(more[at], '+')
				same(t, "Rewrite of one byte more", d.Rewrite(more...), api.ErrFull)
			}
			shaped(t, d, before...)
			holds(t, x, frames(before...), len(frames(before...)), 1)
			same(t, "Rewrite", d.Rewrite(lists(rows)...), nil)
			shaped(t, d, rows...)
			holds(t, x, frames(rows...), most, 2)
			opened(t, x, rows...)
		}
	}
	d := opened(t, tape.New())
	empty := make([][]byte, most/head+1)
	same(t, "Rewrite of as many empty rows as there are", d.Rewrite(empty[1:]...), nil)
	shaped(t, d, make([]string, most/head)...)
	same(t, "Rewrite of one more", d.Rewrite(empty...), api.ErrFull)
	shaped(t, d, make([]string, most/head)...)
}

// P7.1: rows that share their bytes may together be more than memory holds.
func TestRewriteOfVeryManyRows(t *testing.T) {
	row := []byte(letters(0, longest))
	rows := slices.Repeat([][]byte{row}, 1<<20)
	x := laid(t, frames("a"))
	d := opened(t, x, "a")
	same(t, "Rewrite", d.Rewrite(rows...), api.ErrFull)
	shaped(t, d, "a")
	holds(t, x, frames("a"), len(frames("a")), 1)
}

// P7.1, P7.3: a Rewrite that the disk refuses, or whose power goes, changes nothing.
func TestRewriteRefused(t *testing.T) {
	for _, before := range [][]string{nil, {""}, {"a", "bc"}} {
		for _, rows := range [][]string{nil, {""}, {"x", "", "yz"}, {letters(0, longest)}} {
			x := laid(t, frames(before...))
			d := opened(t, x, before...)
			all := frames(before...)
			same(t, "Fail", x.Fail(0), nil)
			same(t, "Rewrite", d.Rewrite(lists(rows)...), api.ErrDisk)
			shaped(t, d, before...)
			holds(t, x, all, len(all), 2)
			opened(t, x, before...)
			same(t, "Arm", x.Arm(0), nil)
			for range 2 {
				same(t, "Rewrite", d.Rewrite(lists(rows)...), api.ErrDown)
				shaped(t, d, before...)
				holds(t, x, all, len(all), 2)
			}
			x.Crash(greatest)
			opened(t, x, before...)
			same(t, "Rewrite behind it", d.Rewrite(lists(rows)...), nil)
			opened(t, x, rows...)
		}
	}
}

// P7.1: a nil Diary answers ErrDown, ErrFull first of a row that is none, and 0. How much room there is isn't asked: it has no tape.
func TestNilDiary(t *testing.T) {
	var d *diary.Diary
	wrong := make([]byte, longest+1)
	for range 2 {
		same(t, "Add of nil", d.Add(nil), api.ErrDown)
		same(t, "Add", d.Add([]byte("a")), api.ErrDown)
		same(t, "Add of the longest", d.Add(wrong[1:]), api.ErrDown)
		same(t, "Add of a byte more", d.Add(wrong), api.ErrFull)
		same(t, "Add of many more", d.Add(make([]byte, 2*most)), api.ErrFull)
		same(t, "Rewrite of none", d.Rewrite(), api.ErrDown)
		same(t, "Rewrite of nil", d.Rewrite(nil...), api.ErrDown)
		same(t, "Rewrite", d.Rewrite([]byte("a"), nil, wrong[1:]), api.ErrDown)
		for at := range 3 {
			rows := make([][]byte, 3)
			rows[at] = wrong
			same(t, "Rewrite with a row that is too long", d.Rewrite(rows...), api.ErrFull)
		}
		many := slices.Repeat([][]byte{wrong[1:]}, 65)
		same(t, "Rewrite of more than a tape has room for", d.Rewrite(many...), api.ErrDown)
		same(t, "Rewrite of these and one that is too long", d.Rewrite(append(many, wrong)...), api.ErrFull)
		shaped(t, d)
	}
}

// P7.1: diaries of different tapes are apart; one opened again has what the elder one wrote.
func TestDiariesAreApart(t *testing.T) {
	x, y := tape.New(), tape.New()
	d, e := opened(t, x), opened(t, y)
	same(t, "Add", d.Add([]byte("a")), nil)
	same(t, "Arm", x.Arm(0), nil)
	same(t, "Add", d.Add([]byte("b")), api.ErrDown)
	shaped(t, e)
	same(t, "Add", e.Add([]byte("c")), nil)
	shaped(t, d, "a")
	opened(t, y, "c")
	x.Crash(0)
	opened(t, x, "a")
	opened(t, x, "a")
}

// P7.2: an Add with the power going at each of its steps, and with a crash that keeps each count of bytes: the rows ahead of it, and it, just if the crash keeps all of it.
func TestCrashInAnAdd(t *testing.T) {
	for _, rows := range [][]string{nil, {""}, {"a", "bc"}, {framed("inner")}} {
		for _, row := range []string{"", "x", "a row", framed("inner"), frames("one", "two")} {
			for arm := range 3 {
				for keep := -1; keep < head+len(row)+2; keep++ {
					x := laid(t, frames(rows...))
					d := opened(t, x, rows...)
					same(t, "Arm", x.Arm(arm), nil)
					want := slices.Clone(rows)
					switch {
					case arm == 2:
						same(t, "Add", d.Add([]byte(row)), nil)
						want = append(want, row)
					default:
						same(t, "Add", d.Add([]byte(row)), api.ErrDown)
						if arm == 1 && keep >= head+len(row) {
							want = append(want, row)
						}
					}
					x.Crash(keep)
					d = opened(t, x, want...)
					same(t, "Add behind it", d.Add([]byte("next")), nil)
					x.Crash(0)
					opened(t, x, append(want, "next")...)
				}
			}
		}
	}
}

// P7.2: a long row that is cut is there whole or not at all.
func TestCrashInAnAddOfALongRow(t *testing.T) {
	row := letters(1, longest)
	for _, keep := range []int{0, 1, 4, head - 1, head, head + 1, longest, head + longest - 1, head + longest, greatest} {
		x := laid(t, frames("a"))
		d := opened(t, x, "a")
		same(t, "Arm", x.Arm(1), nil)
		same(t, "Add", d.Add([]byte(row)), api.ErrDown)
		x.Crash(keep)
		if keep >= head+longest {
			opened(t, x, "a", row)
		} else {
			opened(t, x, "a")
		}
	}
}

// P7.2: a Rewrite with the power going at its step or behind it, and a crash that keeps each count of bytes: all of it, or none.
func TestCrashInARewrite(t *testing.T) {
	for _, before := range [][]string{nil, {"a", "bc"}} {
		for _, rows := range [][]string{nil, {""}, {"x", "", "yz"}, {letters(0, longest), "x"}} {
			for arm := range 2 {
				for keep := -1; keep < 40; keep++ {
					x := laid(t, frames(before...))
					d := opened(t, x, before...)
					same(t, "Arm", x.Arm(arm), nil)
					want, err := before, error(api.ErrDown)
					if arm == 1 {
						want, err = rows, nil
					}
					same(t, "Rewrite", d.Rewrite(lists(rows)...), err)
					same(t, "Sync", x.Sync(), api.ErrDown)
					x.Crash(keep)
					opened(t, x, want...)
				}
			}
		}
	}
}

// P7.2: an Open with the power going at its step or behind it, and a crash that keeps each count of bytes: the next Open answers the same rows.
func TestCrashInAnOpen(t *testing.T) {
	for _, rows := range [][]string{nil, {""}, {"a", "bc"}} {
		for _, other := range others()[:5] {
			for arm := range 2 {
				for keep := -1; keep < len(other)+2; keep++ {
					x := laid(t, frames(rows...)+other)
					same(t, "Arm", x.Arm(arm), nil)
					if arm == 0 {
						shut(t, x, api.ErrDown)
					} else {
						opened(t, x, rows...)
					}
					x.Crash(keep)
					opened(t, x, rows...)
				}
			}
		}
	}
}

// life is a diary that is written to, crashes and is opened again; answered is what it must have, refused what it must never have.
type life struct {
	tape     *tape.Tape
	diary    *diary.Diary
	answered []string
	cut      []string // one row whose Add was cut, or none
	refused  map[string]int
	count    int
}

// next is a row that was never handed in.
func (l *life) next() string {
	l.count++
	return strings.Repeat("r", l.count%7) + strconv.Itoa(l.count)
}

// write adds a row, or rewrites some of those that are there and a new one.
func (l *life) write(rewrite bool) {
	row, down := l.next(), l.tape.Down()
	if rewrite {
		kept := l.answered[len(l.answered)/2:]
		rows := append(slices.Clone(kept), row)
		if err := l.diary.Rewrite(lists(rows)...); err == nil {
			l.answered = rows
		} else {
			l.refused[row]++
		}
		return
	}
	switch err := l.diary.Add([]byte(row)); {
	case err == nil:
		l.answered = append(l.answered, row)
	case err == api.ErrDown && !down:
		l.cut = []string{row}
	default:
		l.refused[row]++
	}
}

// restart crashes and opens, and checks the rows.
func (l *life) restart(t *testing.T, keep int) {
	t.Helper()
	l.tape.Crash(keep)
	d, rows, err := diary.Open(l.tape)
	got, more := texts(rows), append(slices.Clone(l.answered), l.cut...)
	if err != nil || !slices.Equal(got, l.answered) && !slices.Equal(got, more) {
		t.Fatalf("Open behind Crash(%d): %v, %q, want %q, and at most %q", keep, err, got, l.answered, l.cut)
	}
	for _, row := range got {
		if l.refused[row] > 0 {
			t.Fatalf("Open behind Crash(%d): %q was refused", keep, row)
		}
	}
	// A row that is lost once stays so.
	if len(got) == len(l.answered) {
		for _, row := range l.cut {
			l.refused[row]++
		}
	}
	l.diary, l.answered, l.cut = d, got, nil
	shaped(t, d, got...)
}

// P7.2, P7.3: through many crashes, at any step, whatever is kept, with a disk that refuses in between: all rows that were answered, in order, at most the one that was cut, whole, and none that was refused.
func TestManyCrashes(t *testing.T) {
	kept, lost := 0, 0
	for seed := range 400 {
		l := &life{tape: tape.New(), refused: map[string]int{}}
		l.restart(t, 0)
		for i := range 12 {
			luck := scramble(seed<<8 + i)
			same(t, "Arm", l.tape.Arm(luck%9), nil)
			same(t, "Fail", l.tape.Fail(luck/9%11), nil)
			for j := range 6 {
				l.write(scramble(luck+j)%4 == 0)
			}
			had := len(l.answered)
			l.restart(t, luck/99%20-1)
			if len(l.answered) > had {
				kept++
			} else {
				lost++
			}
		}
	}
	if kept < 100 || lost < 100 {
		t.Errorf("rows that were cut: %d kept, %d lost: too few of these were tried", kept, lost)
	}
}

// P7.3: a row that was refused never comes back, in whichever way it was refused, and whatever comes behind it.
func TestRefusedIsNeverThere(t *testing.T) {
	refuse := []func(x *tape.Tape, d *diary.Diary) error{
		func(x *tape.Tape, d *diary.Diary) error { x.Fail(0); return d.Add([]byte("refused")) },
		func(x *tape.Tape, d *diary.Diary) error { x.Fail(1); return d.Add([]byte("refused")) },
		func(x *tape.Tape, d *diary.Diary) error { x.Fail(0); return d.Rewrite([]byte("refused")) },
		func(x *tape.Tape, d *diary.Diary) error { return d.Add(make([]byte, longest+1)) },
		func(x *tape.Tape, d *diary.Diary) error { return d.Rewrite([]byte("refused"), make([]byte, longest+1)) },
		func(x *tape.Tape, d *diary.Diary) error { x.Arm(0); return d.Add([]byte("refused")) },
		func(x *tape.Tape, d *diary.Diary) error { x.Arm(0); return d.Rewrite([]byte("refused")) },
	}
	for number, do := range refuse {
		for _, keep := range []int{0, 1, head, 20, greatest} {
			x := tape.New()
			d := opened(t, x)
			same(t, "Add", d.Add([]byte("a")), nil)
			if do(x, d) == nil {
				t.Errorf("%d: it wasn't refused", number)
			}
			shaped(t, d, "a")
			x.Crash(keep)
			d = opened(t, x, "a")
			same(t, "Add", d.Add([]byte("b")), nil)
			x.Crash(keep)
			opened(t, x, "a", "b")
			// Without a crash in between, too.
			x = tape.New()
			d = opened(t, x)
			if do(x, d) == api.ErrDown {
				continue
			}
			same(t, "Add", d.Add([]byte("b")), nil)
			opened(t, x, "b")
			same(t, "Arm", x.Arm(1), nil)
			same(t, "Add", d.Add([]byte("c")), api.ErrDown)
			x.Crash(greatest)
			opened(t, x, "b", "c")
		}
	}
}

// scribble overwrites bytes and their spare room.
func scribble(b []byte) {
	b = b[:cap(b)]
	for i := range b {
		b[i] ^= 0xa5
	}
}

// roomy is bytes with others in their spare room; whole is both.
func roomy(text string) (part, whole []byte) {
	whole = []byte(text + "spare room, and more of it")
	return whole[:len(text)], whole
}

// P7.4: rows, their list and the spare room of both are as they were behind Add and Rewrite and all that follows, whatever these answer; and a diary stays as it is when they are changed later.
func TestRowsAreNeitherChangedNorKept(t *testing.T) {
	for _, rewrite := range []bool{false, true} {
		for _, arm := range []int{0, 1, greatest} {
			for _, fail := range []int{0, 1, greatest} {
				x := tape.New()
				d := opened(t, x)
				same(t, "Add", d.Add([]byte("ahead")), nil)
				one, wholeOne := roomy("one")
				two, wholeTwo := roomy("two")
				list := [][]byte{one, nil, two, []byte("spare")}
				same(t, "Arm", x.Arm(arm), nil)
				same(t, "Fail", x.Fail(fail), nil)
				if rewrite {
					d.Rewrite(list[:3]...)
				} else {
					d.Add(one)
				}
				all, count, size := x.Read(), d.Len(), d.Bytes()
				scribble(wholeOne)
				scribble(wholeTwo)
				list[0], list[2] = []byte("other"), nil
				if !bytes.Equal(x.Read(), all) || d.Len() != count || d.Bytes() != size {
					t.Errorf("Arm(%d), Fail(%d): the diary changed with what was handed in", arm, fail)
				}
				scribble(wholeOne)
				scribble(wholeTwo)
				list[0], list[2] = one, two
				x.Crash(greatest)
				d, _, _ = diary.Open(x)
				same(t, "Add", d.Add([]byte("behind it")), nil)
				same(t, "Rewrite", d.Rewrite([]byte("anew"), nil), nil)
				if string(wholeOne) != "onespare room, and more of it" || string(wholeTwo) != "twospare room, and more of it" {
					t.Errorf("Arm(%d), Fail(%d): the rows are %q, %q", arm, fail, wholeOne, wholeTwo)
				}
				if !slices.Equal(texts(list), []string{"one", "", "two", "spare"}) {
					t.Errorf("Arm(%d), Fail(%d): the list is %q", arm, fail, list)
				}
			}
		}
	}
}

// P7.4: one row handed in many times, and rows of one row of bytes: they share memory with each other, not with the diary.
func TestRowsThatShareMemory(t *testing.T) {
	x := tape.New()
	d := opened(t, x)
	b := []byte("abcdef")
	same(t, "Rewrite", d.Rewrite(b[:2], b[:2], b[1:4], b), nil)
	same(t, "Add", d.Add(b[3:]), nil)
	scribble(b)
	opened(t, x, "ab", "ab", "bcd", "abcdef", "def")
	_, rows, _ := diary.Open(x)
	same(t, "Rewrite of what Open answered", d.Rewrite(rows[1:4]...), nil)
	same(t, "Add of what Open answered", d.Add(rows[0]), nil)
	for _, row := range rows {
		scribble(row)
	}
	opened(t, x, "ab", "bcd", "abcdef", "ab")
}

// P7.4: the rows that Open answers share no memory with each other, with those of another Open, or with the tape, behind other bytes, too.
func TestOpenAnswersNewMemory(t *testing.T) {
	for _, other := range []string{"", "other bytes"} {
		want := []string{"a", "", "bcd", strings.Repeat("long", 100), "e"}
		x := laid(t, frames(want...)+other)
		d, rows, err := diary.Open(x)
		same(t, "Open", err, nil)
		_, again, err := diary.Open(x)
		same(t, "Open again", err, nil)
		for i, row := range rows {
			scribble(row)
			for j, text := range want {
				if j > i && string(rows[j]) != text {
					t.Errorf("rows %d and %d share memory", i, j)
				}
			}
		}
		if !slices.Equal(texts(again), want) {
			t.Errorf("the rows of two calls share memory: %q", again)
		}
		shaped(t, d, want...)
		opened(t, x, want...)
		// What comes behind neither changes an answer nor is changed by it.
		same(t, "Add", d.Add([]byte("next")), nil)
		same(t, "Rewrite", d.Rewrite([]byte("anew"), []byte("and more")), nil)
		same(t, "Add", d.Add([]byte("last")), nil)
		if !slices.Equal(texts(again), want) {
			t.Errorf("the rows changed with the diary: %q", again)
		}
		for _, row := range again {
			scribble(row)
		}
		opened(t, x, "anew", "and more", "last")
	}
}
