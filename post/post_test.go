package post_test

import (
	"bytes"
	"math"
	"runtime"
	"slices"
	"strconv"
	"strings"
	"testing"

	"estuary/post"
)

const (
	least    = math.MinInt
	greatest = math.MaxInt
	most     = 4096 // messages on their way, as the chapter writes them
)

// net is the chapter's calls, which the model has, too.
type net interface {
	Send(list ...[]byte) int
	Deliver(i int) ([]byte, bool)
	Drop(i int) bool
	Copy(i int) bool
	Len() int
	Lost() int
	Taken() int
}

// fate is what has become of a message.
type fate int

const (
	onItsWay fate = iota
	takenUp
	lost
)

// model is a post by the chapter's words. It forgets nothing: each message that was ever sent or copied stands there with its fate, and what is told of them is counted at each call.
type model struct {
	texts []string
	fates []fate
}

func (m *model) count(f fate) int {
	n := 0
	for _, each := range m.fates {
		if each == f {
			n++
		}
	}
	return n
}

// find is where message i on its way stands, or -1.
func (m *model) find(i int) int {
	for at, f := range m.fates {
		if f != onItsWay {
			continue
		}
		if i == 0 {
			return at
		}
		i--
	}
	return -1
}

func (m *model) enter(text string) {
	f := onItsWay
	if m.Len() >= most {
		f = lost
	}
	m.texts, m.fates = append(m.texts, text), append(m.fates, f)
}

func (m *model) Send(list ...[]byte) int {
	for _, b := range list {
		m.enter(string(b))
	}
	return m.Len()
}

func (m *model) Deliver(i int) ([]byte, bool) {
	at := m.find(i)
	if at < 0 {
		return nil, false
	}
	m.fates[at] = takenUp
	return []byte(m.texts[at]), true
}

func (m *model) Drop(i int) bool {
	at := m.find(i)
	if at >= 0 {
		m.fates[at] = lost
	}
	return at >= 0
}

func (m *model) Copy(i int) bool {
	at := m.find(i)
	if at >= 0 {
		m.enter(m.texts[at])
	}
	return at >= 0
}

func (m *model) Len() int   { return m.count(onItsWay) }
func (m *model) Lost() int  { return m.count(lost) }
func (m *model) Taken() int { return m.count(takenUp) }

// answer is what any call answers: a number, or bytes, and a bool.
type answer struct {
	number int
	text   string
	ok     bool
}

// call is a call with its arguments, at a place in a row of calls: so messages of different calls differ.
type call struct {
	name string
	do   func(n net, at int) answer
}

// letter is a message that tells where in a row it was handed in.
func letter(at int, more string) []byte { return []byte(strconv.Itoa(at) + more) }

// send is a call of Send with messages by where it is in a row.
func send(name string, list func(at int) [][]byte) call {
	return call{name, func(n net, at int) answer { return answer{number: n.Send(list(at)...)} }}
}

// at is the calls of Deliver, Drop and Copy with one number.
func at(i int) []call {
	text := "(" + strconv.Itoa(i) + ")"
	return []call{
		{"Deliver" + text, func(n net, at int) answer { b, ok := n.Deliver(i); return answer{0, string(b), ok} }},
		{"Drop" + text, func(n net, at int) answer { return answer{ok: n.Drop(i)} }},
		{"Copy" + text, func(n net, at int) answer { return answer{ok: n.Copy(i)} }},
	}
}

// calls is each call with each kind of arguments.
func calls() []call {
	list := []call{
		send("Send()", func(at int) [][]byte { return nil }),
		send("Send(nil)", func(at int) [][]byte { return [][]byte{nil} }),
		send("Send(1)", func(at int) [][]byte { return [][]byte{letter(at, "a")} }),
		send("Send(3)", func(at int) [][]byte { return [][]byte{letter(at, "b"), {}, letter(at, "c")} }),
	}
	for _, i := range []int{-1, 0, 1, 2, 3} {
		list = append(list, at(i)...)
	}
	return list
}

// wild is calls with numbers far from any message, and around those of a full post.
func wild() []call {
	var list []call
	for _, i := range []int{least, least + 1, -1 << 32, -most, most - 2, most - 1, most, 1 << 32, 1<<32 + 1, greatest - 1, greatest} {
		list = append(list, at(i)...)
	}
	return list
}

// many is a call of Send with so many messages, which differ.
func many(count int) call {
	return send("Send of "+strconv.Itoa(count), func(at int) [][]byte {
		list := make([][]byte, count)
		for i := range list {
			list[i] = letter(at, "."+strconv.Itoa(i))
		}
		return list
	})
}

// names is the names of a row's calls.
func names(row []call) []string {
	var list []string
	for _, c := range row {
		list = append(list, c.name)
	}
	return list
}

// follow makes a row of calls of a post and of the model, and checks that they answer the same, and count the same behind each call.
func follow(t *testing.T, p *post.Post, m *model, row []call) {
	t.Helper()
	for i, c := range row {
		got, want := c.do(p, i), c.do(m, i)
		if got != want {
			t.Fatalf("%v: %v, want %v", names(row[:i+1]), got, want)
		}
		if p.Len() != m.Len() || p.Lost() != m.Lost() || p.Taken() != m.Taken() {
			t.Fatalf("%v: Len %d, Lost %d, Taken %d, want %d, %d, %d", names(row[:i+1]), p.Len(), p.Lost(), p.Taken(), m.Len(), m.Lost(), m.Taken())
		}
		if all := len(m.texts); p.Len()+p.Lost()+p.Taken() != all {
			t.Fatalf("%v: %d sent and copied, but Len %d, Lost %d, Taken %d", names(row[:i+1]), all, p.Len(), p.Lost(), p.Taken())
		}
	}
}

// empty takes up all messages of a post, from the first one on.
func empty(n net) []string {
	var list []string
	for {
		b, ok := n.Deliver(0)
		if !ok {
			return list
		}
		list = append(list, string(b))
	}
}

// finish checks that a post behind a row has the messages of the model, in their order.
func finish(t *testing.T, p *post.Post, m *model, row []call) {
	t.Helper()
	if got, want := empty(p), empty(m); !slices.Equal(got, want) {
		t.Fatalf("%v: %.200q on their way, want %.200q", names(row), got, want)
	}
}

// scramble is a number that looks like none: the same at each run.
func scramble(seed int) int {
	x := uint64(seed) * 0x9e3779b97f4a7c15
	x = (x ^ x>>30) * 0xbf58476d1ce4e5b9
	x = (x ^ x>>27) * 0x94d049bb133111eb
	return int((x ^ x>>31) >> 1)
}

// chosen is a row of so many calls, in an order that looks like none.
func chosen(list []call, count, seed int) []call {
	row := make([]call, count)
	for i := range row {
		row[i] = list[scramble(seed<<12+i+1)%len(list)]
	}
	return row
}

// counts checks what a post counts.
func counts(t *testing.T, what string, n net, on, gone, taken int) {
	t.Helper()
	if n.Len() != on || n.Lost() != gone || n.Taken() != taken {
		t.Errorf("%s: Len %d, Lost %d, Taken %d, want %d, %d, %d", what, n.Len(), n.Lost(), n.Taken(), on, gone, taken)
	}
}

// gives checks that a post has message i, with that text; it is taken up.
func gives(t *testing.T, n net, i int, text string) {
	t.Helper()
	if b, ok := n.Deliver(i); string(b) != text || !ok {
		t.Errorf("Deliver(%d): %.40q, %v, want %.40q", i, b, ok, text)
	}
}

// hasNone checks that a post has no message i at any of its calls, which change nothing.
func hasNone(t *testing.T, n net, i int) {
	t.Helper()
	on, gone, taken := n.Len(), n.Lost(), n.Taken()
	if b, ok := n.Deliver(i); len(b) > 0 || ok {
		t.Errorf("Deliver(%d) of %d: %q, %v", i, on, b, ok)
	}
	if n.Drop(i) {
		t.Errorf("Drop(%d) of %d", i, on)
	}
	if n.Copy(i) {
		t.Errorf("Copy(%d) of %d", i, on)
	}
	counts(t, "behind no message "+strconv.Itoa(i), n, on, gone, taken)
}

// words is a text's words as messages.
func words(text string) [][]byte {
	var list [][]byte
	for word := range strings.FieldsSeq(text) {
		list = append(list, []byte(word))
	}
	return list
}

// sent is a new post with a text's words on their way.
func sent(t *testing.T, text string) *post.Post {
	t.Helper()
	p := post.New()
	list := words(text)
	if n := p.Send(list...); n != len(list) {
		t.Fatalf("Send of %q: %d", text, n)
	}
	return p
}

// has checks that a post has just a text's words on their way; they are taken up.
func has(t *testing.T, what string, p *post.Post, text string) {
	t.Helper()
	if got := strings.Join(empty(p), " "); got != text {
		t.Errorf("%s: %.200q on their way, want %.200q", what, got, text)
	}
}

// filled is a new post with so many messages on their way, each with its number.
func filled(t *testing.T, count int) *post.Post {
	t.Helper()
	p := post.New()
	for i := range count {
		if n := p.Send([]byte(strconv.Itoa(i))); n != i+1 {
			t.Fatalf("Send of the message ahead of which are %d: %d", i, n)
		}
	}
	counts(t, "filled", p, count, 0, 0)
	return p
}

// P8.1: the chapter's example.
func TestExample(t *testing.T) {
	p := post.New()
	if n := p.Send([]byte("a"), []byte("b"), []byte("c")); n != 3 {
		t.Error("Send", n)
	}
	gives(t, p, 1, "b")
	if !p.Copy(0) {
		t.Error("Copy(0)")
	}
	gives(t, p, 2, "a")
	if !p.Drop(0) {
		t.Error("Drop(0)")
	}
	counts(t, "in the end", p, 1, 1, 2)
	has(t, "in the end", p, "c")
}

// P8.1: a new post has nothing, and is apart from others.
func TestNew(t *testing.T) {
	p, q := post.New(), post.New()
	counts(t, "new", p, 0, 0, 0)
	p.Send(words("a b c")...)
	p.Drop(0)
	gives(t, p, 0, "b")
	counts(t, "used", p, 1, 1, 1)
	counts(t, "another one", q, 0, 0, 0)
	hasNone(t, q, 0)
	q.Send(words("x")...)
	has(t, "used", p, "c")
	has(t, "another one", q, "x")
	counts(t, "a later one", post.New(), 0, 0, 0)
}

// P8.1, P8.2: every row of four calls, with each kind of arguments, answers as the model, and leaves the same messages.
func TestAllShortRows(t *testing.T) {
	list := calls()
	row := make([]call, 4)
	count := len(list) * len(list) * len(list) * len(list)
	for number := range count {
		for i := range row {
			row[i] = list[number%len(list)]
			number /= len(list)
		}
		p, m := post.New(), &model{}
		follow(t, p, m, row)
		finish(t, p, m, row)
	}
}

// P8.1, P8.2: the same of every three calls behind messages that are there already, with numbers far from them, too.
func TestAllShortRowsBehindMessages(t *testing.T) {
	list := append(calls(), wild()[:9]...)
	for _, a := range list {
		for _, b := range list {
			for _, c := range list {
				p, m := post.New(), &model{}
				for _, n := range []net{p, m} {
					n.Send(words("v w x y z")...)
					n.Drop(1)
					n.Deliver(1)
				}
				row := []call{a, b, c}
				follow(t, p, m, row)
				finish(t, p, m, row)
			}
		}
	}
}

// P8.1, P8.2: long rows of calls, in any order.
func TestLongRows(t *testing.T) {
	list := append(calls(), wild()...)
	for seed := range 200 {
		row := chosen(list, 200, seed)
		p, m := post.New(), &model{}
		follow(t, p, m, row)
		finish(t, p, m, row)
	}
	// Fewer calls that take messages away, so that more of them are on their way.
	more := slices.DeleteFunc(calls(), func(c call) bool { return c.name == "Drop(0)" || c.name == "Deliver(0)" })
	for seed := range 200 {
		row := chosen(more, 200, seed)
		p, m := post.New(), &model{}
		follow(t, p, m, row)
		finish(t, p, m, row)
	}
}

// P8.1, P8.2: rows of calls of a post that is full, or nearly so.
func TestRowsAtTheLimit(t *testing.T) {
	list := append(append(calls(), wild()...), many(5), many(most), many(most+1))
	for seed := range 40 {
		row := append([]call{many(most - 3 + seed%5)}, chosen(list, 20, seed)...)
		p, m := post.New(), &model{}
		follow(t, p, m, row)
		finish(t, p, m, row)
	}
}

// P8.1: Send of nothing sends nothing; an empty message and nil are messages as any other.
func TestSendOfNothing(t *testing.T) {
	p := post.New()
	for _, list := range [][][]byte{nil, {}} {
		if n := p.Send(list...); n != 0 {
			t.Errorf("Send of nothing: %d", n)
		}
	}
	counts(t, "nothing", p, 0, 0, 0)
	if n := p.Send(nil, []byte{}, []byte("a")); n != 3 {
		t.Errorf("Send of nil, an empty one and another: %d", n)
	}
	if n := p.Send([]byte(nil)); n != 4 {
		t.Errorf("Send of nil: %d", n)
	}
	if n := p.Send(); n != 4 {
		t.Errorf("Send of nothing: %d", n)
	}
	if !p.Copy(1) {
		t.Error("Copy of an empty message")
	}
	counts(t, "empty ones", p, 5, 0, 0)
	for _, want := range []string{"", "", "a", "", ""} {
		gives(t, p, 0, want)
	}
	counts(t, "empty ones", p, 0, 0, 5)
	p.Send(nil)
	if !p.Drop(0) {
		t.Error("Drop of an empty message")
	}
	counts(t, "empty ones", p, 0, 1, 5)
}

// P8.1: Send answers how many are on their way then, whatever was taken away, and however many are sent at once.
func TestSendCountsThoseOnTheirWay(t *testing.T) {
	p := sent(t, "a b c")
	gives(t, p, 0, "a")
	if n := p.Send(words("d e")...); n != 4 {
		t.Error(n)
	}
	p.Drop(0)
	p.Drop(0)
	if n := p.Send(words("f")...); n != 3 {
		t.Error(n)
	}
	counts(t, "in the end", p, 3, 2, 1)
	has(t, "in the end", p, "d e f")
}

// P8.1: 4095 and 4096 messages are on their way, the 4097th is lost, sent one by one or at once.
func TestMostMessages(t *testing.T) {
	for _, count := range []int{most - 1, most, most + 1, 2 * most} {
		on, gone := min(count, most), max(count-most, 0)
		once, one := post.New(), post.New()
		var list [][]byte
		for i := range count {
			list = append(list, []byte(strconv.Itoa(i)))
			if n := one.Send(list[i]); n != min(i+1, most) {
				t.Fatalf("Send of the message ahead of which were %d: %d", i, n)
			}
		}
		if n := once.Send(list...); n != on {
			t.Errorf("Send of %d: %d", count, n)
		}
		for _, p := range []*post.Post{once, one} {
			counts(t, "sent "+strconv.Itoa(count), p, on, gone, 0)
			hasNone(t, p, on)
			for i := range on {
				gives(t, p, 0, strconv.Itoa(i))
			}
			counts(t, "taken "+strconv.Itoa(count), p, 0, gone, on)
		}
	}
}

// P8.1: of several messages those that find no room are lost, which are the last ones; where there is room again, messages are on their way again.
func TestSendOfSomeWithoutRoom(t *testing.T) {
	p := filled(t, most-2)
	if n := p.Send(words("a b c d e")...); n != most {
		t.Errorf("Send of 5 with room for 2: %d", n)
	}
	counts(t, "behind 5", p, most, 3, 0)
	if n := p.Send(words("f g")...); n != most {
		t.Errorf("Send of 2 with no room: %d", n)
	}
	counts(t, "behind 2", p, most, 5, 0)
	if n := p.Send(); n != most {
		t.Errorf("Send of nothing with no room: %d", n)
	}
	if n := p.Send(nil, []byte{}); n != most {
		t.Errorf("Send of empty messages with no room: %d", n)
	}
	counts(t, "behind empty ones", p, most, 7, 0)
	gives(t, p, most-1, "b")
	gives(t, p, most-2, "a")
	if !p.Drop(most - 3) {
		t.Error("Drop of the last one")
	}
	if n := p.Send(words("h i j k")...); n != most {
		t.Errorf("Send of 4 with room for 3: %d", n)
	}
	counts(t, "behind 4", p, most, 9, 2)
	for i, want := range []string{strconv.Itoa(most - 4), "h", "i", "j"} {
		gives(t, p, most-4, want)
		counts(t, "in the end", p, most-1-i, 9, 3+i)
	}
}

// P8.1: a copy that finds no room is lost; there was a message all the same.
func TestCopyWithoutRoom(t *testing.T) {
	p := filled(t, most-1)
	for i, at := range []int{most - 2, 0, most - 1, 7, most - 1} {
		if !p.Copy(at) {
			t.Errorf("Copy(%d)", at)
		}
		counts(t, "copied", p, most, i, 0)
	}
	hasNone(t, p, most)
	gives(t, p, most-1, strconv.Itoa(most-2))
	counts(t, "one taken", p, most-1, 4, 1)
	if !p.Copy(0) {
		t.Error("Copy(0) with room again")
	}
	counts(t, "copied again", p, most, 4, 1)
	gives(t, p, most-1, "0")
	for i := range most - 1 {
		gives(t, p, 0, strconv.Itoa(i))
	}
	counts(t, "in the end", p, 0, 4, most+1)
}

// P8.1: there is no message at numbers below 0, at those of as many as there are, and beyond; at each one between there is.
func TestNumbers(t *testing.T) {
	for _, count := range []int{0, 1, 2, 3, 255, 256, 257, most - 1, most} {
		p := filled(t, count)
		for _, i := range []int{least, least + 1, -1 << 32, -1<<32 + 1, -most, -count - 1, -2, -1, count, count + 1, 2*most + 1, 1<<31 - 1, 1 << 31, 1 << 32, 1<<32 + 1, 1 << 62, greatest - 1, greatest} {
			hasNone(t, p, i)
		}
		if count == 0 {
			continue
		}
		last := count - 1
		if !p.Copy(last) || !p.Drop(p.Len()-1) {
			t.Errorf("Copy and Drop of the last one of %d", count)
		}
		for i := last; i >= 0; i-- {
			hasNone(t, p, p.Len())
			// Of a full post the copy was lost, and so the last message itself dropped.
			if count < most || i < last {
				gives(t, p, i, strconv.Itoa(i))
			}
		}
		hasNone(t, p, 0)
	}
}

// P8.1: behind a message that is taken up or dropped all come one nearer, in their order; those ahead of it stay.
func TestThoseBehindComeNearer(t *testing.T) {
	const text = "a b c d e f"
	for i := range 6 {
		rest := strings.Join(slices.Delete(strings.Fields(text), i, i+1), " ")
		p := sent(t, text)
		gives(t, p, i, strings.Fields(text)[i])
		counts(t, "Deliver", p, 5, 0, 1)
		has(t, "Deliver("+strconv.Itoa(i)+")", p, rest)
		p = sent(t, text)
		if !p.Drop(i) {
			t.Errorf("Drop(%d)", i)
		}
		counts(t, "Drop", p, 5, 1, 0)
		has(t, "Drop("+strconv.Itoa(i)+")", p, rest)
		p = sent(t, text)
		if !p.Copy(i) {
			t.Errorf("Copy(%d)", i)
		}
		counts(t, "Copy", p, 7, 0, 0)
		has(t, "Copy("+strconv.Itoa(i)+")", p, text+" "+strings.Fields(text)[i])
	}
	p := sent(t, text)
	gives(t, p, 4, "e")
	gives(t, p, 1, "b")
	p.Drop(3)
	p.Send(words("g")...)
	gives(t, p, 2, "d")
	gives(t, p, 2, "g")
	has(t, "several", p, "a c")
}

// P8.2: what is taken up was sent, byte by byte: all bytes, and more of them than any note has.
func TestBytesStayAsTheyWere(t *testing.T) {
	var all []byte
	for i := range 256 {
		all = append(all, byte(i))
	}
	list := [][]byte{all, {0}, {0, 0}, {0xff}, {0xc3}, []byte("ä\xa4"), bytes.Repeat(all, 1000), {}, all[:255]}
	p := post.New()
	p.Send(list...)
	for i := range list {
		p.Copy(i)
	}
	for range 2 {
		for i, want := range list {
			if b, ok := p.Deliver(0); !bytes.Equal(b, want) || !ok {
				t.Errorf("message %d: %d bytes, %.20x, want %d, %.20x", i, len(b), b, len(want), want)
			}
		}
	}
	counts(t, "in the end", p, 0, 0, 2*len(list))
}

// P8.2: each message that was sent once, and never copied, is taken up, lost or on its way once, whatever comes in between.
func TestEachMessageOnce(t *testing.T) {
	for seed := range 20 {
		p := post.New()
		taken := map[string]int{}
		next, dropped := 0, 0
		for step := range 3000 {
			pick := scramble(seed<<20 + step)
			i := pick/8%(p.Len()+3) - 1
			switch pick % 8 {
			case 0, 1, 2, 3:
				p.Send([]byte(strconv.Itoa(next)), []byte(strconv.Itoa(next+1)))
				next += 2
			case 4, 5, 6:
				if b, ok := p.Deliver(i); ok {
					taken[string(b)]++
				}
			default:
				if p.Drop(i) {
					dropped++
				}
			}
			counts(t, "on the way", p, next-len(taken)-dropped, dropped, len(taken))
		}
		for _, text := range empty(p) {
			taken[text]++
		}
		if len(taken)+dropped != next {
			t.Fatalf("%d sent, %d taken up, %d dropped", next, len(taken), dropped)
		}
		for text, times := range taken {
			if n, err := strconv.Atoi(text); err != nil || n < 0 || n >= next || times != 1 {
				t.Fatalf("%q, of %d sent, was taken up %d times", text, next, times)
			}
		}
	}
}

// P8.2: what was sent and copied is the sum of those on their way, taken up and lost, around the limit, too.
func TestNothingComesFromNowhere(t *testing.T) {
	p := post.New()
	sum := 0
	for step := range 60000 {
		pick := scramble(step)
		i := pick/16%(p.Len()+3) - 1
		switch pick % 16 {
		case 0, 1, 2, 3:
			p.Send([]byte("a"), nil, []byte("b"))
			sum += 3
		case 4, 5, 6, 7, 8, 9:
			if p.Copy(i) {
				sum++
			}
		case 10, 11, 12:
			p.Deliver(i)
		default:
			p.Drop(i)
		}
		if p.Len()+p.Lost()+p.Taken() != sum || p.Len() > most {
			t.Fatalf("step %d: %d sent and copied, Len %d, Lost %d, Taken %d", step, sum, p.Len(), p.Lost(), p.Taken())
		}
	}
	if p.Len() < most-10 {
		t.Errorf("the limit isn't reached: Len %d", p.Len())
	}
}

// P8.1: a nil Post answers 0, none and false at every call.
func TestNilPost(t *testing.T) {
	var p *post.Post
	for _, list := range [][][]byte{nil, {nil}, words("a"), words("a b c"), make([][]byte, most+1)} {
		if n := p.Send(list...); n != 0 {
			t.Errorf("Send of %d: %d", len(list), n)
		}
	}
	for _, i := range []int{least, -1, 0, 1, most, greatest} {
		hasNone(t, p, i)
	}
	counts(t, "nil", p, 0, 0, 0)
}

// roomy is bytes with spare room behind them, and all of that memory.
func roomy(text string) (b, all []byte) {
	all = []byte(text + "spare room")
	return all[:len(text)], all
}

// scribble spoils bytes, and their spare room.
func scribble(b []byte) {
	b = b[:cap(b)]
	for i := range b {
		b[i] ^= 0x55
	}
}

// P8.3: neither the messages handed in nor the list nor their spare room is changed, whether they find room or not.
func TestArgumentsStay(t *testing.T) {
	for _, p := range []*post.Post{post.New(), filled(t, most-1), filled(t, most), nil} {
		a, wholeA := roomy("one")
		b, wholeB := roomy("two")
		e, wholeE := roomy("")
		beyond := []byte("beyond")
		row := [][]byte{a, e, b, beyond}
		p.Send(row[:3]...)
		p.Copy(0)
		p.Copy(p.Len() - 1)
		for p.Len() > 0 {
			p.Drop(0)
			b, _ := p.Deliver(0)
			scribble(b)
		}
		if string(wholeA) != "onespare room" || string(wholeB) != "twospare room" || string(wholeE) != "spare room" {
			t.Errorf("%q, %q, %q", wholeA, wholeB, wholeE)
		}
		if &row[0][0] != &a[0] || len(row[0]) != 3 || len(row[1]) != 0 || &row[2][0] != &b[0] || len(row[2]) != 3 || &row[3][0] != &beyond[0] || string(beyond) != "beyond" {
			t.Errorf("the list is now %q", row)
		}
	}
}

// P8.3: a post stays as it is when what was handed in is changed later, the list itself, too.
func TestArgumentsAreNotKept(t *testing.T) {
	p := post.New()
	a, wholeA := roomy("one")
	b, wholeB := roomy("two")
	row := [][]byte{a, b, a}
	p.Send(row...)
	scribble(wholeA)
	scribble(wholeB)
	row[0], row[1], row[2] = []byte("x"), nil, []byte("y")
	p.Copy(1)
	again := []byte("three")
	p.Send(again)
	scribble(again)
	has(t, "behind changes", p, "one two one two three")
}

// P8.3: a post stays as it is when what Deliver answered is changed later, with its spare room: a message and its copies, and those sent of the same bytes, share no memory.
func TestAnswersAreNewMemory(t *testing.T) {
	for _, length := range []int{1, 2, 5, 8, 31, 32, 33, 5000} {
		one := bytes.Repeat([]byte("1"), length)
		two := bytes.Repeat([]byte("2"), length)
		p := post.New()
		p.Send(one, two, one)
		for _, i := range []int{0, 1, 3, 0} {
			p.Copy(i)
		}
		for i, want := range [][]byte{one, two, one, one, two, one, one} {
			b, ok := p.Deliver(0)
			if !bytes.Equal(b, want) || !ok {
				t.Fatalf("message %d of length %d: %.40q, want %.40q", i, length, b, want)
			}
			scribble(b)
		}
		if one[0] != '1' || two[0] != '2' {
			t.Errorf("length %d: what was handed in is now %.40q, %.40q", length, one, two)
		}
	}
}

// P8.3: answers share no memory with each other: each stays as it is when another one is changed.
func TestAnswersAreApart(t *testing.T) {
	p := sent(t, "word")
	for range 5 {
		p.Copy(0)
	}
	var got [][]byte
	for p.Len() > 0 {
		b, _ := p.Deliver(p.Len() / 2)
		got = append(got, b)
	}
	for i := range got {
		scribble(got[i])
		for j, b := range got {
			if j > i && string(b) != "word" {
				t.Errorf("answer %d is %q behind a change of answer %d", j, b, i)
			}
		}
	}
}

// P8.1: very many copies of a long message need little memory: else a full post of them would need more than there is.
func TestManyCopiesOfALongMessage(t *testing.T) {
	const length = 1 << 20
	p := post.New()
	p.Send(bytes.Repeat([]byte("long"), length/4))
	var before, behind runtime.MemStats
	runtime.ReadMemStats(&before)
	for range 2 * most {
		if !p.Copy(p.Len() - 1) {
			t.Fatal("Copy")
		}
	}
	runtime.ReadMemStats(&behind)
	if grown := behind.TotalAlloc - before.TotalAlloc; grown > 16*length {
		t.Errorf("%d bytes for the copies of %d", grown, length)
	}
	counts(t, "copied", p, most, most+1, 0)
	b, ok := p.Deliver(most / 2)
	scribble(b)
	if c, _ := p.Deliver(most / 2); !ok || len(b) != length || len(c) != length || string(c[:8]) != "longlong" || string(c[length-4:]) != "long" {
		t.Errorf("%d bytes, %.20q, %v", len(b), b, ok)
	}
}
