package gate_test

import (
	"slices"
	"testing"

	"estuary/api"
	"estuary/gate"
	"estuary/note"
)

// good is batches in form.
func good() []api.Batch {
	list := []api.Batch{
		batch(at(0, 0), at(0, 0)),
		batch(upTo(least), upTo(least)),
		{Epoch: greatest, Lane: greatest, From: upTo(least), To: at(greatest, greatest)},
		{Epoch: 3, Lane: 11, From: at(1, 2), To: at(3, 4), Entries: []api.Entry{entry(at(1, 2)), entry(at(3, 3))}},
		batch(upTo(least), at(greatest, greatest), entry(upTo(least)), entry(at(greatest, greatest-1))),
	}
	for n := range 17 {
		list = append(list, batch(at(0, 0), at(0, n), counted(n)...))
	}
	for _, c := range near() {
		list = append(list, batch(at(0, 0), upTo(1), api.Entry{Place: at(0, 0), Cell: c}))
	}
	return list
}

// bad is batches that aren't in form.
func bad() []api.Batch {
	return []api.Batch{
		{},
		{Epoch: 0, To: upTo(1)},
		{Epoch: -1},
		{Epoch: least},
		{Epoch: 1, Lane: -1},
		{Epoch: 1, Lane: least},
		batch(at(0, 1), at(0, 0)),
		batch(at(1, 0), at(0, 0)),
		batch(at(0, 0), at(0, 99), counted(17)...),
		batch(at(0, 0), at(0, 0), entry(at(0, 0))),
		batch(at(0, 0), at(0, 5), entry(at(0, -1))),
		batch(at(0, 0), at(0, 5), entry(at(0, 5))),
		batch(at(0, 0), at(0, 5), entry(at(0, 6))),
		batch(at(0, 0), at(0, 5), entries(at(0, 2), at(0, 1))...),
		batch(at(0, 0), at(0, 5), entries(at(0, 2), at(0, 2))...),
		batch(at(0, 0), at(0, 5), api.Entry{Place: at(0, 2)}),
		batch(at(0, 0), at(0, 5), entry(at(0, 1)), api.Entry{Place: at(0, 2)}),
	}
}

// expectNote holds that a batch's note is as layer 5 says.
func expectNote(t *testing.T, from, to int, b api.Batch) {
	t.Helper()
	n := gate.Note(from, to, b)
	nums := []int{b.Epoch, b.Lane, b.From.Win, b.From.Key, b.To.Win, b.To.Key}
	if n.Kind != isBatch || n.From != from || n.To != to || !slices.Equal(n.Nums, nums) {
		t.Fatalf("Note(%d, %d, %v): %d, %d, %d, %v", from, to, short(b), n.Kind, n.From, n.To, n.Nums)
	}
	if len(n.Ops) != 0 || !slices.Equal(n.Entries, b.Entries) {
		t.Fatalf("Note(%d, %d, %v): %v, %v", from, to, short(b), n.Ops, n.Entries)
	}
}

// P17.1: Note is the note NBatch, of all nodes, in form or not, and of all batches, in form or not.
func TestNote(t *testing.T) {
	for _, b := range slices.Concat(good(), bad()) {
		for _, from := range []int{least, -1, 0, 1, 999, 1000, greatest} {
			for _, to := range []int{least, -1, 0, 2, 999, 1000, greatest} {
				expectNote(t, from, to, b)
			}
		}
	}
	expectNote(t, 1, 2, batch(at(0, 0), upTo(1), counted(3000)...))
}

// expectNoBatch holds that a note has no batch.
func expectNoBatch(t *testing.T, n api.Note) {
	t.Helper()
	if b, err := gate.Batch(n); err != errForm || !equal(b, api.Batch{}) {
		t.Fatalf("Batch(%v): %v, %v", n, short(b), err)
	}
}

// P17.3: Batch of Note is the batch, where it is in form, also when the note came as bytes.
func TestThereAndBack(t *testing.T) {
	for _, b := range good() {
		for _, nodes := range [][2]int{{0, 0}, {4, 9}, {999, 0}, {0, 999}, {999, 999}} {
			n := gate.Note(nodes[0], nodes[1], b)
			if got, err := gate.Batch(n); err != nil || !equal(got, b) || !gate.Same(got, b) {
				t.Fatalf("Batch(Note(%v)): %v, %v", short(b), short(got), err)
			}
			bytes, err := note.Encode(n)
			if err != nil {
				t.Fatalf("%v has no bytes: %v", short(b), err)
			}
			read, err := note.Decode(bytes)
			if err != nil {
				t.Fatal(err)
			}
			if got, err := gate.Batch(read); err != nil || !equal(got, b) {
				t.Fatalf("%v out of bytes: %v, %v", short(b), short(got), err)
			}
		}
	}
}

// P17.1: Batch of a batch that isn't in form is ErrForm, though its note may be in form.
func TestBatchOfBadBatches(t *testing.T) {
	for _, b := range bad() {
		n := gate.Note(1, 2, b)
		expectNoBatch(t, n)
		if len(b.Entries) <= 16 && note.Check(n) != nil {
			t.Errorf("the note of %v isn't in form", short(b))
		}
	}
}

// P17.1: Batch of notes that aren't in form.
func TestBatchOfBadNotes(t *testing.T) {
	b := batch(at(0, 0), at(0, 5), counted(2)...)
	for _, node := range []int{least, -1, 1000, greatest} {
		expectNoBatch(t, gate.Note(node, 2, b))
		expectNoBatch(t, gate.Note(1, node, b))
	}
	for n := range 70 {
		x := gate.Note(1, 2, b)
		x.Nums = append(x.Nums, make([]int, 70)...)[:n]
		if got, err := gate.Batch(x); (err == nil) != (n == 6) {
			t.Errorf("Batch of %d numbers: %v, %v", n, short(got), err)
		}
	}
	x := gate.Note(1, 2, b)
	x.Nums = nil
	expectNoBatch(t, x)
	for _, o := range []api.Op{{}, {Seq: 1, Kind: isSample}, {Seq: 1, Kind: isMark}} {
		x := gate.Note(1, 2, b)
		x.Ops = []api.Op{o}
		expectNoBatch(t, x)
	}
	x = gate.Note(1, 2, b)
	x.Ops = []api.Op{}
	if got, err := gate.Batch(x); err != nil || !equal(got, b) {
		t.Error(short(got), err)
	}
}

// P17.1: Batch of notes of other kinds, also of those that are in form with numbers that a batch could have.
func TestBatchOfOtherKinds(t *testing.T) {
	sizes := map[int]int{1: 4, 2: 7, 3: 6, 4: 4, 5: 7, 6: 7, 7: 6, 9: 4}
	for kind, size := range sizes {
		n := api.Note{Kind: kind, From: 1, To: 2, Nums: []int{1, 0, 0, 0, 5, 0, 0, 0}[:size]}
		if err := note.Check(n); err != nil {
			t.Fatal(kind, err)
		}
		expectNoBatch(t, n)
	}
	b := batch(at(0, 0), at(0, 5))
	for _, kind := range []int{least, -8, -1, 0, 1, 2, 3, 4, 5, 6, 7, 9, 10, 16, greatest} {
		for _, list := range [][]api.Entry{nil, counted(2)} {
			n := gate.Note(1, 2, b)
			n.Kind, n.Entries = kind, list
			expectNoBatch(t, n)
		}
	}
	expectNoBatch(t, api.Note{})
	expectNoBatch(t, api.Note{Kind: isBatch})
}

// P17.1: what Batch takes is just what is in form, as a note and as a batch, and its note is that note.
func TestBatchOfManyNotes(t *testing.T) {
	s := scramble(17)
	taken := 0
	for range 40000 {
		n := api.Note{Kind: isBatch - s.next(20)/19, From: s.next(3), To: s.next(3)}
		for range 6 + s.next(12)/11 {
			n.Nums = append(n.Nums, s.next(4)-s.next(5)/4)
		}
		for range s.next(4) {
			e := entry(at(s.next(3), s.next(3)))
			if s.next(9) == 0 {
				e.Cell = api.Cell{}
			}
			n.Entries = append(n.Entries, e)
		}
		b, err := gate.Batch(n)
		want := n.Kind == isBatch && len(n.Nums) == 6
		if want {
			x := api.Batch{Epoch: n.Nums[0], Lane: n.Nums[1], From: at(n.Nums[2], n.Nums[3]), To: at(n.Nums[4], n.Nums[5]), Entries: n.Entries}
			want = inForm(x)
		}
		if !want {
			expectNoBatch(t, n)
			continue
		}
		taken++
		if err != nil || !note.Same(gate.Note(n.From, n.To, b), n) {
			t.Fatalf("Batch(%v): %v, %v", n, short(b), err)
		}
	}
	if taken < 1000 {
		t.Error("too few were taken:", taken)
	}
}

// P17.3: Note neither changes nor keeps what it is handed, and shares no memory with another answer.
func TestNoteIsNewMemory(t *testing.T) {
	odd := entry(at(9, 9))
	for _, n := range []int{0, 1, 2, 16, 17} {
		list, whole := roomy(counted(n), odd)
		before := slices.Clone(whole)
		b := batch(at(0, 0), at(0, 99))
		b.Entries = list
		one, other := gate.Note(1, 2, b), gate.Note(1, 2, b)
		want := api.Note{Kind: isBatch, From: 1, To: 2, Nums: slices.Clone(one.Nums), Entries: counted(n)}
		scribble(one.Nums, 77)
		scribble(one.Entries, api.Entry{Place: at(77, 77)})
		if !slices.Equal(whole, before) || !note.Same(other, want) {
			t.Errorf("who writes over the note of %d entries writes elsewhere", n)
		}
		scribble(whole, api.Entry{Place: at(66, 66)})
		if !note.Same(other, want) {
			t.Errorf("the note of %d entries is kept in what was handed in", n)
		}
	}
}

// P17.3: Batch neither changes nor keeps what it is handed, taken or refused, and shares no memory with another answer.
func TestBatchIsNewMemory(t *testing.T) {
	odd := entry(at(9, 9))
	for n := range 18 {
		list, whole := roomy(counted(n), odd)
		nums, wholeNums := roomy([]int{1, 0, 0, 0, 0, 99}, 5)
		before, beforeNums := slices.Clone(whole), slices.Clone(wholeNums)
		x := api.Note{Kind: isBatch, From: 1, To: 2, Nums: nums, Entries: list}
		one, err := gate.Batch(x)
		other, otherErr := gate.Batch(x)
		if (err == nil) != (n <= 16) || err != otherErr {
			t.Fatal(n, err, otherErr)
		}
		scribble(one.Entries, api.Entry{Place: at(77, 77)})
		if !slices.Equal(whole, before) || !slices.Equal(wholeNums, beforeNums) {
			t.Errorf("the note of %d entries is changed", n)
		}
		scribble(whole, api.Entry{Place: at(66, 66)})
		scribble(wholeNums, 66)
		want := api.Batch{}
		if n <= 16 {
			want = batch(at(0, 0), at(0, 99), counted(n)...)
		}
		if !equal(other, want) {
			t.Errorf("the batch of %d entries is kept elsewhere: %v", n, short(other))
		}
	}
}
