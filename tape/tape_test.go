package tape_test

import (
	"bytes"
	"math"
	"slices"
	"strconv"
	"testing"

	"estuary/api"
	"estuary/tape"
)

const (
	least    = math.MinInt
	greatest = math.MaxInt
	most     = 1 << 20 // bytes of a tape, as the chapter writes them
)

// file is the chapter's calls, which the model has, too.
type file interface {
	Append(parts ...[]byte) error
	Sync() error
	Replace(b []byte) error
	Cut()
	Read() []byte
	Sure() int
	Steps() int
	Down() bool
	Arm(n int) error
	Fail(n int) error
	Crash(keep int)
}

// never is no try's number.
const never = math.MaxUint64

// model is a tape by the chapter's words. It holds sure and other bytes apart, and numbers all tries of a step, so that what is to happen stands at a try's number and nothing is counted down.
type model struct {
	sure, loose   string
	tries         uint64
	goes, refuses uint64
	steps         int
	gone          bool
}

func newModel() *model { return &model{goes: never, refuses: never} }

func (m *model) step() error {
	if m.gone {
		return api.ErrDown
	}
	now := m.tries
	m.tries++
	if m.gone = now == m.goes; m.gone {
		return api.ErrDown
	}
	m.steps++
	if now == m.refuses {
		return api.ErrDisk
	}
	return nil
}

func (m *model) Append(parts ...[]byte) error {
	more := string(bytes.Join(parts, nil))
	if len(m.sure)+len(m.loose)+len(more) > most {
		return api.ErrFull
	}
	err := m.step()
	if err == nil {
		m.loose += more
	}
	return err
}

func (m *model) Sync() error {
	err := m.step()
	if err == nil {
		m.sure, m.loose = m.sure+m.loose, ""
	}
	return err
}

func (m *model) Replace(b []byte) error {
	if len(b) > most {
		return api.ErrFull
	}
	err := m.step()
	if err == nil {
		m.sure, m.loose = string(b), ""
	}
	return err
}

func (m *model) Cut() {
	if !m.gone {
		m.loose = ""
	}
}

func (m *model) Read() []byte { return []byte(m.sure + m.loose) }
func (m *model) Sure() int    { return len(m.sure) }
func (m *model) Steps() int   { return m.steps }
func (m *model) Down() bool   { return m.gone }

func (m *model) Arm(n int) error {
	if n < 0 {
		return api.ErrRange
	}
	m.goes = m.tries + uint64(n)
	return nil
}

func (m *model) Fail(n int) error {
	if n < 0 {
		return api.ErrRange
	}
	m.refuses = m.tries + uint64(n)
	return nil
}

func (m *model) Crash(keep int) {
	if keep < len(m.loose) {
		m.loose = m.loose[:max(keep, 0)]
	}
	m.sure += m.loose
	m.loose, m.gone, m.goes, m.refuses = "", false, never, never
}

// call is a call with its arguments, at a place in a row of calls: so bytes of different calls differ.
type call struct {
	name string
	do   func(f file, at int) error
}

// letters is so many bytes that tell where in a row they were handed in.
func letters(at, count int) []byte { return bytes.Repeat([]byte{byte('a' + at%26)}, count) }

// calls is each call with each kind of arguments.
func calls() []call {
	list := []call{
		{"Append()", func(f file, at int) error { return f.Append() }},
		{"Append(1)", func(f file, at int) error { return f.Append(letters(at, 1)) }},
		{"Append(2, 0, 1)", func(f file, at int) error { return f.Append(letters(at, 2), nil, letters(at+1, 1)) }},
		{"Sync", func(f file, at int) error { return f.Sync() }},
		{"Replace(nil)", func(f file, at int) error { return f.Replace(nil) }},
		{"Replace(3)", func(f file, at int) error { return f.Replace(letters(at, 3)) }},
		{"Cut", func(f file, at int) error { f.Cut(); return nil }},
	}
	for _, n := range []int{-1, 0, 1, 2} {
		text := strconv.Itoa(n)
		list = append(list,
			call{"Arm(" + text + ")", func(f file, at int) error { return f.Arm(n) }},
			call{"Fail(" + text + ")", func(f file, at int) error { return f.Fail(n) }},
			call{"Crash(" + text + ")", func(f file, at int) error { f.Crash(n); return nil }},
		)
	}
	return list
}

// extremes is calls with the least and greatest numbers, and with as many bytes as may be and one more.
func extremes() []call {
	half := bytes.Repeat([]byte("half"), most/8)
	whole := bytes.Repeat([]byte("all!"), most/4)
	beyond := append(slices.Clone(whole), '+')
	list := []call{
		{"Append(half)", func(f file, at int) error { return f.Append(half) }},
		{"Append(half, half)", func(f file, at int) error { return f.Append(half, half) }},
		{"Append(half, half, 1)", func(f file, at int) error { return f.Append(half, half, letters(at, 1)) }},
		{"Replace(whole)", func(f file, at int) error { return f.Replace(whole) }},
		{"Replace(beyond)", func(f file, at int) error { return f.Replace(beyond) }},
		{"Replace(whole but 1)", func(f file, at int) error { return f.Replace(whole[1:]) }},
	}
	for _, n := range []int{least, greatest} {
		text := strconv.Itoa(n)
		list = append(list,
			call{"Arm(" + text + ")", func(f file, at int) error { return f.Arm(n) }},
			call{"Fail(" + text + ")", func(f file, at int) error { return f.Fail(n) }},
			call{"Crash(" + text + ")", func(f file, at int) error { f.Crash(n); return nil }},
		)
	}
	return list
}

// names is the names of a row's calls.
func names(row []call) []string {
	var list []string
	for _, c := range row {
		list = append(list, c.name)
	}
	return list
}

// follow makes a row of calls of a tape and of the model, and checks that they answer the same, and hold the same behind each call.
func follow(t *testing.T, x *tape.Tape, m *model, row []call) {
	t.Helper()
	for i, c := range row {
		got, want := c.do(x, i), c.do(m, i)
		if got != want {
			t.Fatalf("%v: %v, want %v", names(row[:i+1]), got, want)
		}
		compare(t, x, m, row[:i+1])
	}
}

// compare checks that a tape tells what the model does.
func compare(t *testing.T, x *tape.Tape, m *model, row []call) {
	t.Helper()
	if got, want := x.Read(), m.Read(); !bytes.Equal(got, want) {
		t.Fatalf("%v: Read: %d bytes, %.40q, want %d, %.40q", names(row), len(got), got, len(want), want)
	}
	if x.Sure() != m.Sure() || x.Steps() != m.Steps() || x.Down() != m.Down() {
		t.Fatalf("%v: Sure %d, Steps %d, Down %v, want %d, %d, %v", names(row), x.Sure(), x.Steps(), x.Down(), m.Sure(), m.Steps(), m.Down())
	}
}

// scramble is a number that looks like none: the same at each run.
func scramble(seed int) int {
	x := uint64(seed) * 0x9e3779b97f4a7c15
	x = (x ^ x>>30) * 0xbf58476d1ce4e5b9
	x = (x ^ x>>27) * 0x94d049bb133111eb
	return int((x ^ x>>31) >> 1)
}

// chosen is a row of so many calls, in an order that looks like none.
func chosen(list []call, count, seed int) []call {
	row := make([]call, count)
	for i := range row {
		row[i] = list[scramble(seed<<12+i+1)%len(list)]
	}
	return row
}

// same checks an answer's error.
func same(t *testing.T, what string, got, want error) {
	t.Helper()
	if got != want {
		t.Errorf("%s: %v, want %v", what, got, want)
	}
}

// holds checks all that a tape tells.
func holds(t *testing.T, x *tape.Tape, all string, sure, steps int, down bool) {
	t.Helper()
	if got := string(x.Read()); got != all || x.Sure() != sure || x.Steps() != steps || x.Down() != down {
		t.Errorf("%.40q, Sure %d, Steps %d, Down %v, want %.40q, %d, %d, %v", got, x.Sure(), x.Steps(), x.Down(), all, sure, steps, down)
	}
}

// written is a new tape with sure bytes and others behind them.
func written(t *testing.T, sure, loose string) *tape.Tape {
	t.Helper()
	x := tape.New()
	same(t, "Replace", x.Replace([]byte(sure)), nil)
	same(t, "Append", x.Append([]byte(loose)), nil)
	return x
}

// step is one of the three kinds of steps, of bytes.
type step struct {
	name string
	do   func(x *tape.Tape, b []byte) error
}

func steps() []step {
	return []step{
		{"Append", func(x *tape.Tape, b []byte) error { return x.Append(b) }},
		{"Sync", func(x *tape.Tape, b []byte) error { return x.Sync() }},
		{"Replace", func(x *tape.Tape, b []byte) error { return x.Replace(b) }},
	}
}

// P6.1: the chapter's examples.
func TestExamples(t *testing.T) {
	x := tape.New()
	same(t, "Append(ab)", x.Append([]byte("ab")), nil)
	same(t, "Sync", x.Sync(), nil)
	same(t, "Append(cd)", x.Append([]byte("cd")), nil)
	holds(t, x, "abcd", 2, 3, false)
	x.Crash(1)
	holds(t, x, "abc", 3, 3, false)
	same(t, "Arm(1)", x.Arm(1), nil)
	same(t, "Append", x.Append([]byte("e")), nil)
	same(t, "Sync", x.Sync(), api.ErrDown)
	holds(t, x, "abce", 3, 4, true)
	x.Crash(0)
	holds(t, x, "abc", 3, 4, false)
}

// P6.1: a new tape has nothing, and is apart from others.
func TestNew(t *testing.T) {
	x, y := tape.New(), tape.New()
	holds(t, x, "", 0, 0, false)
	same(t, "Append", x.Append([]byte("a")), nil)
	same(t, "Fail", x.Fail(1), nil)
	same(t, "Arm", x.Arm(0), nil)
	same(t, "Sync", x.Sync(), api.ErrDown)
	holds(t, x, "a", 0, 1, true)
	holds(t, y, "", 0, 0, false)
	same(t, "Sync of the other", y.Sync(), nil)
	same(t, "Sync of the other", y.Sync(), nil)
	holds(t, y, "", 0, 2, false)
	holds(t, tape.New(), "", 0, 0, false)
}

// P6.1: every row of four calls, with each kind of arguments, answers as the model.
func TestAllShortRows(t *testing.T) {
	list := calls()
	row := make([]call, 4)
	count := len(list) * len(list) * len(list) * len(list)
	for number := range count {
		for i := range row {
			row[i] = list[number%len(list)]
			number /= len(list)
		}
		follow(t, tape.New(), newModel(), row)
	}
}

// P6.1: the same of every three calls behind bytes that are sure and others, which Crash and Cut find there.
func TestAllShortRowsBehindBytes(t *testing.T) {
	list := calls()
	for _, a := range list {
		for _, b := range list {
			for _, c := range list {
				x, m := tape.New(), newModel()
				for _, f := range []file{x, m} {
					f.Append([]byte("sure"))
					f.Sync()
					f.Append([]byte("loose"))
				}
				follow(t, x, m, []call{a, b, c})
			}
		}
	}
}

// P6.1: long rows of calls, in any order.
func TestLongRows(t *testing.T) {
	list := calls()
	for seed := range 3000 {
		follow(t, tape.New(), newModel(), chosen(list, 60, seed))
	}
	// Fewer calls that end what was armed and gather what is sure, so that more comes together in between.
	few := slices.DeleteFunc(calls(), func(c call) bool { return c.name[:3] == "Rep" || c.name == "Arm(0)" || c.name == "Arm(1)" })
	for seed := range 1000 {
		follow(t, tape.New(), newModel(), chosen(few, 200, seed))
	}
}

// P6.1: rows with great numbers, and at the limit of bytes.
func TestRowsAtTheLimits(t *testing.T) {
	list := append(calls(), extremes()...)
	for seed := range 100 {
		follow(t, tape.New(), newModel(), chosen(list, 20, seed))
	}
}

// P6.1: with Arm(n) n steps of any kind are made; with the next one the power goes, and that isn't counted.
func TestArm(t *testing.T) {
	for _, s := range steps() {
		for n := range 6 {
			x := written(t, "ab", "c")
			same(t, "Arm", x.Arm(n), nil)
			for range n {
				same(t, s.name+" ahead of it", s.do(x, []byte("d")), nil)
			}
			if x.Down() {
				t.Errorf("%s: down %d steps behind Arm(%d)", s.name, n, n)
			}
			all, sure := string(x.Read()), x.Sure()
			for range 3 {
				for _, later := range steps() {
					same(t, later.name+" behind it", later.do(x, []byte("e")), api.ErrDown)
					holds(t, x, all, sure, 2+n, true)
				}
			}
		}
	}
}

// P6.1: the last Arm holds, nearer or farther; one below 0 is refused and changes nothing.
func TestArmAgain(t *testing.T) {
	for _, n := range []int{0, 1, 3, 5} {
		x := tape.New()
		same(t, "Arm(2)", x.Arm(2), nil)
		same(t, "Sync", x.Sync(), nil)
		same(t, "Arm again", x.Arm(n), nil)
		for _, wrong := range []int{-1, -2, least} {
			same(t, "Arm below 0", x.Arm(wrong), api.ErrRange)
		}
		for range n {
			same(t, "Sync", x.Sync(), nil)
		}
		same(t, "Sync", x.Sync(), api.ErrDown)
		holds(t, x, "", 0, 1+n, true)
		same(t, "Arm below 0 without power", x.Arm(-1), api.ErrRange)
		same(t, "Arm without power", x.Arm(5), nil)
		same(t, "Sync without power", x.Sync(), api.ErrDown)
	}
	x := tape.New()
	same(t, "Arm below 0", x.Arm(least), api.ErrRange)
	for range 10 {
		same(t, "Sync of a tape that isn't armed", x.Sync(), nil)
	}
}

// P6.1: Fail(n) refuses the one step that comes n behind the next one, of any kind; that step is counted, and changes nothing.
func TestFail(t *testing.T) {
	for _, s := range steps() {
		for n := range 6 {
			x := written(t, "ab", "c")
			same(t, "Fail", x.Fail(n), nil)
			for range n {
				same(t, s.name+" ahead of it", s.do(x, []byte("d")), nil)
			}
			all, sure := string(x.Read()), x.Sure()
			same(t, s.name, s.do(x, []byte("e")), api.ErrDisk)
			holds(t, x, all, sure, 3+n, false)
			for i := range 8 {
				same(t, s.name+" behind it", s.do(x, []byte("f")), nil)
				if x.Steps() != 4+n+i {
					t.Errorf("%s: %d steps, want %d", s.name, x.Steps(), 4+n+i)
				}
			}
		}
	}
}

// P6.1: the last Fail holds, nearer or farther; one below 0 is refused and changes nothing.
func TestFailAgain(t *testing.T) {
	for _, n := range []int{0, 1, 3, 5} {
		x := tape.New()
		same(t, "Fail(2)", x.Fail(2), nil)
		same(t, "Sync", x.Sync(), nil)
		same(t, "Fail again", x.Fail(n), nil)
		for _, wrong := range []int{-1, -2, least} {
			same(t, "Fail below 0", x.Fail(wrong), api.ErrRange)
		}
		for range n {
			same(t, "Sync", x.Sync(), nil)
		}
		same(t, "Sync", x.Sync(), api.ErrDisk)
		for range 10 {
			same(t, "Sync behind it", x.Sync(), nil)
		}
		holds(t, x, "", 0, 12+n, false)
	}
	x := tape.New()
	same(t, "Fail below 0", x.Fail(least), api.ErrRange)
	for range 10 {
		same(t, "Sync of a tape that refuses nothing", x.Sync(), nil)
	}
}

// P6.1: both at once: where it is the same step, the power goes; a refused step brings the power's end nearer, as each other one does.
func TestArmAndFail(t *testing.T) {
	for _, s := range steps() {
		for arm := range 6 {
			for fail := range 6 {
				x := tape.New()
				same(t, "Arm", x.Arm(arm), nil)
				same(t, "Fail", x.Fail(fail), nil)
				for i := range 8 {
					var want error
					if i == fail {
						want = api.ErrDisk
					}
					if i >= arm {
						want = api.ErrDown
					}
					if got := s.do(x, []byte("a")); got != want {
						t.Errorf("%s %d with Arm(%d), Fail(%d): %v, want %v", s.name, i, arm, fail, got, want)
					}
					if count := min(i+1, arm); x.Steps() != count || x.Down() != (i >= arm) {
						t.Errorf("%s %d with Arm(%d), Fail(%d): %d steps, down %v", s.name, i, arm, fail, x.Steps(), x.Down())
					}
				}
			}
		}
	}
}

// P6.1: calls that are no steps are neither counted nor bring anything nearer, nor are they refused.
func TestOtherCallsAreNoSteps(t *testing.T) {
	x := written(t, "ab", "cd")
	same(t, "Arm", x.Arm(1), nil)
	same(t, "Fail", x.Fail(0), nil)
	for range 5 {
		holds(t, x, "abcd", 2, 2, false)
	}
	x.Cut()
	holds(t, x, "ab", 2, 2, false)
	same(t, "Sync", x.Sync(), api.ErrDisk)
	for range 5 {
		x.Cut()
		holds(t, x, "ab", 2, 3, false)
	}
	same(t, "Sync", x.Sync(), api.ErrDown)
}

// P6.1: just 2^20 bytes find room, one more doesn't, whole and in any parts.
func TestFull(t *testing.T) {
	b := bytes.Repeat([]byte("0123456789abcdef"), most/16)
	for _, held := range []int{0, 1, most / 2, most - 1, most} {
		for _, at := range []int{0, 1, most / 3, most} {
			at = min(at, most-held)
			x := written(t, string(b[:held/2]), string(b[held/2:held]))
			more := b[held:]
			same(t, "one byte more", x.Append(more[:at], nil, more[at:], []byte("+")), api.ErrFull)
			same(t, "one byte more, first", x.Append([]byte("+"), more[:at], more[at:]), api.ErrFull)
			holds(t, x, string(b[:held]), held/2, 2, false)
			same(t, "as many as may be", x.Append(more[:at], nil, more[at:]), nil)
			same(t, "none more", x.Append(), nil)
			same(t, "empty ones more", x.Append(nil, []byte{}, nil), nil)
			same(t, "one byte more behind them", x.Append([]byte("+")), api.ErrFull)
			holds(t, x, string(b), held/2, 5, false)
		}
	}
	x := written(t, "ab", "c")
	same(t, "Replace by one byte too many", x.Replace(append(slices.Clone(b), '+')), api.ErrFull)
	holds(t, x, "abc", 2, 2, false)
	same(t, "Replace by as many as may be", x.Replace(b), nil)
	holds(t, x, string(b), most, 3, false)
	same(t, "Replace of a full tape", x.Replace(b[1:]), nil)
	holds(t, x, string(b[1:]), most-1, 4, false)
}

// P6.1: ErrFull comes ahead of the step: it isn't made, counted, refused, or the power's last, and comes without power, too.
func TestFullIsNoStep(t *testing.T) {
	beyond := make([]byte, most+1)
	full := func(x *tape.Tape, room int) {
		t.Helper()
		same(t, "Append", x.Append(beyond[:room+1]), api.ErrFull)
		same(t, "Append of parts", x.Append(nil, beyond[:room], beyond[:1]), api.ErrFull)
		same(t, "Replace", x.Replace(beyond), api.ErrFull)
	}
	x := written(t, "ab", "c")
	same(t, "Arm", x.Arm(2), nil)
	same(t, "Fail", x.Fail(1), nil)
	full(x, most-3)
	same(t, "Sync", x.Sync(), nil)
	full(x, most-3)
	same(t, "Sync", x.Sync(), api.ErrDisk)
	full(x, most-3)
	holds(t, x, "abc", 3, 4, false)
	same(t, "Sync", x.Sync(), api.ErrDown)
	full(x, most-3)
	same(t, "Append without power", x.Append(beyond[:most-3]), api.ErrDown)
	same(t, "Replace without power", x.Replace(beyond[:most]), api.ErrDown)
	holds(t, x, "abc", 3, 4, true)
}

// P6.1: many parts, in their order; none and empty ones are a step all the same.
func TestAppendOfParts(t *testing.T) {
	x := tape.New()
	same(t, "none", x.Append(), nil)
	same(t, "a nil one", x.Append(nil), nil)
	same(t, "empty ones", x.Append([]byte{}, nil, []byte{}), nil)
	holds(t, x, "", 0, 3, false)
	same(t, "some", x.Append([]byte("a"), nil, []byte("bcd"), []byte{}, []byte("e")), nil)
	same(t, "none", x.Append(), nil)
	holds(t, x, "abcde", 0, 5, false)
	same(t, "Sync", x.Sync(), nil)
	same(t, "none behind sure ones", x.Append(), nil)
	holds(t, x, "abcde", 5, 7, false)

	var parts [][]byte
	for i := range most {
		parts = append(parts, []byte{byte(i), byte(i >> 8)}[i%2:i%2+1])
	}
	y := tape.New()
	same(t, "as many parts as bytes may be", y.Append(parts...), nil)
	holds(t, y, string(bytes.Join(parts, nil)), 0, 1, false)
	same(t, "one part more", tape.New().Append(append(parts, []byte{1})...), api.ErrFull)
	same(t, "one empty part more", tape.New().Append(append(parts, nil)...), nil)
	same(t, "parts that share their bytes", x.Append(slices.Repeat([][]byte{make([]byte, most)}, 1<<16)...), api.ErrFull)
	holds(t, x, "abcde", 5, 7, false)
}

// P6.1: Replace leaves nothing of the bytes ahead of it, be they more or fewer; all are sure, none of them too.
func TestReplace(t *testing.T) {
	for _, b := range []string{"", "x", "xyz", "longer than the others"} {
		x := written(t, "ab", "c")
		same(t, "Replace", x.Replace([]byte(b)), nil)
		holds(t, x, b, len(b), 3, false)
		x.Cut()
		holds(t, x, b, len(b), 3, false)
		same(t, "Append", x.Append([]byte("d")), nil)
		holds(t, x, b+"d", len(b), 4, false)
	}
}

// P6.1: Cut drops what isn't sure, with the power there; without it nothing.
func TestCut(t *testing.T) {
	x := written(t, "ab", "cd")
	x.Cut()
	x.Cut()
	holds(t, x, "ab", 2, 2, false)
	same(t, "Append", x.Append([]byte("ef")), nil)
	same(t, "Sync", x.Sync(), nil)
	x.Cut()
	holds(t, x, "abef", 4, 4, false)
	same(t, "Append", x.Append([]byte("gh")), nil)
	same(t, "Arm", x.Arm(0), nil)
	same(t, "Sync", x.Sync(), api.ErrDown)
	x.Cut()
	holds(t, x, "abefgh", 4, 5, true)
	x.Crash(1)
	holds(t, x, "abefg", 5, 5, false)
	x.Cut()
	holds(t, x, "abefg", 5, 5, false)

	y := written(t, "", "abc")
	y.Cut()
	holds(t, y, "", 0, 2, false)
	tape.New().Cut()
	// Cut undoes an Append whose Sync the disk refused.
	z := written(t, "ab", "cd")
	same(t, "Fail", z.Fail(0), nil)
	same(t, "Sync", z.Sync(), api.ErrDisk)
	holds(t, z, "abcd", 2, 3, false)
	z.Cut()
	holds(t, z, "ab", 2, 3, false)
}

// P6.1 and P6.2: of the bytes that aren't sure a crash keeps the first ones, with the power there and without it.
func TestCrash(t *testing.T) {
	for _, c := range []struct {
		keep int
		want string
	}{
		{least, "ab"}, {-2, "ab"}, {-1, "ab"}, {0, "ab"}, {1, "abc"}, {2, "abcd"}, {3, "abcde"}, {4, "abcdef"}, {5, "abcdef"}, {most, "abcdef"}, {greatest - 1, "abcdef"}, {greatest, "abcdef"},
	} {
		for _, down := range []bool{false, true} {
			x := written(t, "ab", "cdef")
			if down {
				same(t, "Arm", x.Arm(0), nil)
				same(t, "Append", x.Append([]byte("g")), api.ErrDown)
			}
			x.Crash(c.keep)
			holds(t, x, c.want, len(c.want), 2, false)
			// What was kept is sure: neither a Cut nor a crash behind the crash takes it away.
			x.Cut()
			for _, keep := range []int{least, 0, 1, greatest} {
				x.Crash(keep)
				holds(t, x, c.want, len(c.want), 2, false)
			}
			same(t, "Append", x.Append([]byte("h")), nil)
			holds(t, x, c.want+"h", len(c.want), 3, false)
			x.Crash(0)
			holds(t, x, c.want, len(c.want), 3, false)
		}
	}
	x := tape.New()
	x.Crash(greatest)
	holds(t, x, "", 0, 0, false)
}

// P6.1: a crash gives the power back, and takes back what Arm and Fail asked for, whether they came ahead of the power's end or behind it.
func TestCrashEndsArmAndFail(t *testing.T) {
	for n := range 4 {
		for _, down := range []bool{false, true} {
			x := written(t, "ab", "c")
			if down {
				same(t, "Arm", x.Arm(0), nil)
				same(t, "Sync", x.Sync(), api.ErrDown)
			}
			same(t, "Arm", x.Arm(n), nil)
			same(t, "Fail", x.Fail(n), nil)
			x.Crash(1)
			for range 3 {
				for _, s := range steps() {
					same(t, s.name+" behind the crash", s.do(x, []byte("d")), nil)
				}
			}
			holds(t, x, "d", 1, 11, false)
			// Both may be asked for again.
			same(t, "Fail", x.Fail(0), nil)
			same(t, "Arm", x.Arm(1), nil)
			same(t, "Sync", x.Sync(), api.ErrDisk)
			same(t, "Sync", x.Sync(), api.ErrDown)
			holds(t, x, "d", 1, 12, true)
		}
	}
}

// P6.1: a nil tape, at every call.
func TestNil(t *testing.T) {
	var x *tape.Tape
	for range 2 {
		holds(t, x, "", 0, 0, true)
		whole := make([]byte, most)
		same(t, "Append()", x.Append(), api.ErrDown)
		same(t, "Append of few", x.Append([]byte("a"), nil), api.ErrDown)
		same(t, "Append of as many as may be", x.Append(whole), api.ErrDown)
		same(t, "Append of parts of as many as may be", x.Append(whole[1:], nil, whole[:1]), api.ErrDown)
		same(t, "Append of one more", x.Append(make([]byte, most+1)), api.ErrFull)
		same(t, "Append of parts of one more", x.Append(whole, whole[:1]), api.ErrFull)
		same(t, "Sync", x.Sync(), api.ErrDown)
		same(t, "Replace by nothing", x.Replace(nil), api.ErrDown)
		same(t, "Replace by as many as may be", x.Replace(whole), api.ErrDown)
		same(t, "Replace by one more", x.Replace(make([]byte, most+1)), api.ErrFull)
		for _, n := range []int{least, -1, 0, 1, greatest} {
			same(t, "Arm", x.Arm(n), api.ErrRange)
			same(t, "Fail", x.Fail(n), api.ErrRange)
			x.Crash(n)
		}
		x.Cut()
	}
}

// P6.2: behind a crash, at whichever step the power went or the disk refused, and whatever is kept: all that was sure, and of what wasn't a beginning, of as many bytes as are kept.
func TestSureIsThereBehindEveryCrash(t *testing.T) {
	list := steps()
	for seed := range 300 {
		for arm := range 8 {
			for keep := -1; keep < 12; keep++ {
				x := tape.New()
				same(t, "Arm", x.Arm(arm), nil)
				if seed%3 == 0 {
					same(t, "Fail", x.Fail(seed%7), nil)
				}
				var sure, loose string
				for i := range 8 {
					s := list[scramble(seed<<4+i)%len(list)]
					b := string(letters(i, i%4))
					switch err := s.do(x, []byte(b)); {
					case err != nil:
					case s.name == "Append":
						loose += b
					case s.name == "Sync":
						sure, loose = sure+loose, ""
					default:
						sure, loose = b, ""
					}
				}
				x.Crash(keep)
				kept := loose[:min(max(keep, 0), len(loose))]
				holds(t, x, sure+kept, len(sure+kept), arm, false)
			}
		}
	}
}

// P6.3: a Replace that is cut, refused or too great leaves all as it was; one that isn't is there whole, whatever a crash keeps.
func TestReplaceIsWholeOrNothing(t *testing.T) {
	for _, held := range []struct{ sure, loose string }{{"", ""}, {"ab", ""}, {"", "cd"}, {"ab", "cd"}} {
		for _, b := range [][]byte{nil, []byte("x"), []byte("abcd"), bytes.Repeat([]byte("long"), 5000), make([]byte, most), make([]byte, most+1)} {
			for _, keep := range []int{-1, 0, 1, 2, 3, greatest} {
				for arm := range 3 {
					for fail := range 3 {
						x := written(t, held.sure, held.loose)
						same(t, "Arm", x.Arm(arm), nil)
						same(t, "Fail", x.Fail(fail), nil)
						err := x.Replace(b)
						all, sure := held.sure+held.loose, len(held.sure)
						whole := arm > 0 && fail > 0 && len(b) <= most
						if whole {
							all, sure = string(b), len(b)
						}
						if (err == nil) != whole || string(x.Read()) != all || x.Sure() != sure {
							t.Fatalf("Replace by %d bytes with Arm(%d), Fail(%d): %v, %d bytes, %d sure", len(b), arm, fail, err, len(x.Read()), x.Sure())
						}
						x.Crash(keep)
						all = all[:sure+min(max(keep, 0), len(all)-sure)]
						if string(x.Read()) != all || x.Sure() != len(all) {
							t.Fatalf("Replace by %d bytes with Arm(%d), Fail(%d), Crash(%d): %d bytes, %d sure", len(b), arm, fail, keep, len(x.Read()), x.Sure())
						}
					}
				}
			}
		}
	}
}

// scribble overwrites bytes and their spare room.
func scribble(b []byte) {
	b = b[:cap(b)]
	for i := range b {
		b[i] ^= 0xa5
	}
}

// roomy is bytes with others in their spare room; whole is both.
func roomy(text string) (part, whole []byte) {
	whole = []byte(text + "spare room, and more of it")
	return whole[:len(text)], whole
}

// P6.4: what is handed in is not changed, nor is its spare room, by the call and by all that comes behind it, whatever it answers; and what is done to it later changes no tape.
func TestBytesAreNeitherChangedNorKept(t *testing.T) {
	for _, s := range steps() {
		for _, ahead := range []string{"", "ahead"} {
			for _, arm := range []int{0, 1, greatest} {
				for _, fail := range []int{0, 1, greatest} {
					x := written(t, ahead, "")
					part, whole := roomy("handed in")
					before := slices.Clone(whole)
					same(t, "Arm", x.Arm(arm), nil)
					same(t, "Fail", x.Fail(fail), nil)
					s.do(x, part)
					all := x.Read()
					scribble(whole)
					if !bytes.Equal(x.Read(), all) {
						t.Errorf("%s: the tape changed with what was handed in", s.name)
					}
					scribble(whole)
					x.Crash(greatest)
					same(t, "Append", x.Append([]byte("+++++")), nil)
					x.Cut()
					same(t, "Append", x.Append([]byte("-----")), nil)
					same(t, "Sync", x.Sync(), nil)
					same(t, "Replace", x.Replace([]byte("*****")), nil)
					same(t, "Append", x.Append([]byte("/////")), nil)
					if !bytes.Equal(whole, before) {
						t.Errorf("%s changed what was handed in, or its spare room: %q", s.name, whole)
					}
				}
			}
		}
	}
}

// P6.4: the list of parts stays as it is, with its spare room and the parts' own; what is put into it later changes no tape.
func TestPartsAreNeitherChangedNorKept(t *testing.T) {
	one, wholeOne := roomy("one")
	two, wholeTwo := roomy("two")
	list := [][]byte{one, nil, two, []byte("spare")}
	x := tape.New()
	same(t, "Append", x.Append(list[:3]...), nil)
	same(t, "Append", x.Append([]byte("three")), nil)
	if !slices.EqualFunc(list, [][]byte{[]byte("one"), nil, []byte("two"), []byte("spare")}, bytes.Equal) {
		t.Errorf("the list is %q", list)
	}
	if string(wholeOne) != "onespare room, and more of it" || string(wholeTwo) != "twospare room, and more of it" {
		t.Errorf("the parts are %q, %q", wholeOne, wholeTwo)
	}
	scribble(wholeOne)
	scribble(wholeTwo)
	list[0], list[1] = []byte("other"), []byte("others")
	holds(t, x, "onetwothree", 0, 2, false)
	// One part twice, and the parts of one row of bytes: they share memory with each other, not with the tape.
	row := []byte("abcdef")
	y := tape.New()
	same(t, "Append", y.Append(row[:2], row[:2], row[1:3]), nil)
	scribble(row)
	holds(t, y, "ababbc", 0, 1, false)
	// What one tape answered is another one's, or its own, to be handed in.
	same(t, "Append", y.Append(y.Read(), y.Read()), nil)
	holds(t, y, "ababbcababbcababbc", 0, 2, false)
	same(t, "Replace", y.Replace(y.Read()[2:5]), nil)
	holds(t, y, "abb", 3, 3, false)
}

// P6.4: an answer of Read shares no memory with the tape, nor with other answers, whatever was called ahead of it and comes behind it.
func TestReadIsNewMemory(t *testing.T) {
	list := calls()
	for seed := range 2000 {
		x := tape.New()
		same(t, "Append", x.Append([]byte("some bytes")), nil)
		for i, c := range chosen(list, 12, seed) {
			c.do(x, i)
			one, two := x.Read(), x.Read()
			want := string(two)
			scribble(one)
			if string(two) != want {
				t.Fatalf("behind %s two answers share memory", c.name)
			}
			if string(x.Read()) != want {
				t.Fatalf("behind %s the tape changed with an answer", c.name)
			}
			// What comes behind neither changes the answer nor is changed by it.
			list[(seed+i)%len(list)].do(x, i)
			x.Append([]byte("more"))
			later := string(x.Read())
			if string(two) != want {
				t.Fatalf("behind %s an answer changed with the tape", c.name)
			}
			scribble(two)
			if string(x.Read()) != later {
				t.Fatalf("behind %s the tape changed with an elder answer", c.name)
			}
		}
	}
}

// P6.4: bytes that were cut, and those that a crash didn't keep, stay in the answers that have them when others take their place.
func TestAnswersStayBehindACut(t *testing.T) {
	for _, drop := range []func(x *tape.Tape){
		func(x *tape.Tape) { x.Cut() },
		func(x *tape.Tape) { x.Crash(0) },
		func(x *tape.Tape) { x.Replace([]byte("ab")) },
	} {
		x := written(t, "ab", "cd")
		b := x.Read()
		drop(x)
		same(t, "Append", x.Append([]byte("xy")), nil)
		if string(b) != "abcd" || string(x.Read()) != "abxy" {
			t.Errorf("%q, %q", b, x.Read())
		}
	}
}
