package outfall_test

import (
	"slices"
	"testing"

	"estuary/api"
)

// odd is an entry that no batch here has.
func odd() api.Entry { return api.Entry{Place: at(-77, -77), Cell: some(-77)} }

// P18.4: what is handed in is neither changed nor kept, its spare room included, whatever is answered.
func TestNotesAreNeitherChangedNorKept(t *testing.T) {
	for _, b := range []api.Batch{
		batch(3, 0, upTo(0), upTo(1), at(0, 0), at(0, 1), at(0, 2)),
		{Epoch: 3, From: upTo(0), To: upTo(1), Entries: counted(16)},
		batch(3, 0, upTo(0), upTo(1)),
		batch(1, 0, upTo(0), upTo(1), at(0, 0)),
		batch(3, 0, start(), upTo(1), at(0, 0)),
		batch(3, 0, upTo(0), upTo(0)),
		batch(3, 7, start(), upTo(1), at(0, 0)),
		batch(3, 0, upTo(0), upTo(1), at(1, 0)),
		{Epoch: 3, From: upTo(0), To: upTo(1), Entries: counted(17)},
	} {
		p := both(t, 1, row(batch(2, 0, start(), upTo(0), at(-1, 0))))
		n := sent(b)
		nums, allNums := roomy(n.Nums, -99)
		list, all := roomy(n.Entries, odd())
		ops := make([]api.Op, 0, 3)
		wasNums, was := slices.Clone(allNums), slices.Clone(all)
		handed := n
		handed.Nums, handed.Entries, handed.Ops = nums, list, ops
		got, want := p.o.Handle(handed), p.m.handle(n)
		if !slices.Equal(allNums, wasNums) || !slices.Equal(all, was) || !slices.Equal(ops[:3], make([]api.Op, 3)) {
			t.Errorf("%v: what is handed in is changed", short(b))
		}
		scribble(allNums, -99)
		scribble(all, odd())
		if len(got) != len(want) || len(got) == 1 && !slices.Equal(got[0].Nums, want[0].Nums) {
			t.Errorf("%v: %v, want %v", short(b), got, want)
		}
		p.expect(t)
		for _, back := range got {
			scribble(back.Nums, -99)
		}
		p.expect(t)
		p.handle(t, sent(batch(9, 0, p.o.Frontier(0), end(), at(5, 5))))
		if err := p.reopen(t); err != nil {
			t.Error(err)
		}
	}
}

// P18.4: answers and logs are new memory: a sink stays as it is when they are changed, and no two share any.
func TestAnswersAreNewMemory(t *testing.T) {
	p := both(t, 2, rows(slices.Concat(chain(0, 2), chain(1, 2))...)...)
	for i := range 6 {
		one, two := p.o.Log(), p.o.Log()
		for _, b := range one {
			scribble(b.Entries, odd())
		}
		scribble(one, api.Batch{Epoch: -9})
		if !slices.EqualFunc(two, p.m.log, equal) {
			t.Errorf("two logs share memory: %v", short(two...))
		}
		p.expect(t)
		n := sent(batch(5, i%2, p.o.Frontier(i%2), upTo(10+i), at(9+i, 0), at(9+i, 1)))
		got, again := p.o.Handle(n), p.o.Handle(n)
		p.m.handle(n)
		log := p.o.Log()
		scribble(got[0].Nums, -99)
		if want := []int{i % 2, 5, 10 + i, least}; !slices.Equal(again[0].Nums, want) {
			t.Errorf("two answers share memory: %v, want %v", again, want)
		}
		if !slices.EqualFunc(log, p.m.log, equal) {
			t.Errorf("a log shares memory with an answer: %v", short(log...))
		}
		scribble(again, api.Note{Kind: -9})
		p.expect(t)
	}
	if err := p.reopen(t); err != nil {
		t.Error(err)
	}
}

// P18.4: no two lists of a log share memory, their spare room included.
func TestListsOfALogAreApart(t *testing.T) {
	p := both(t, 2, rows(slices.Concat(chain(0, 6), chain(1, 3))...)...)
	for _, b := range []api.Batch{{Epoch: 8, From: upTo(5), To: upTo(6), Entries: nil}, {Epoch: 8, From: upTo(6), To: upTo(7), Entries: []api.Entry{{Place: at(6, 1), Cell: some(1)}, {Place: at(6, 2), Cell: some(2)}}}} {
		p.send(t, b, 8, b.To)
	}
	for i := range p.m.log {
		log := p.o.Log()
		for range 3 {
			log[i].Entries = append(log[i].Entries, odd())
		}
		scribble(log[i].Entries, odd())
		for j, b := range log {
			if j != i && !equal(b, p.m.log[j]) {
				t.Errorf("batch %d of the log shares memory with batch %d", j, i)
			}
		}
		p.expect(t)
	}
	// A log that grows leaves the earlier ones as they are.
	was := p.o.Log()
	kept := cloned(was)
	p.send(t, batch(9, 0, upTo(7), upTo(8), at(7, 7)), 9, upTo(8))
	if !slices.EqualFunc(was, kept, equal) {
		t.Errorf("the log became %v, was %v", short(was...), short(kept...))
	}
}

// P18.4: a note that comes twice, and is changed between, is another one.
func TestNoteIsUsedAgain(t *testing.T) {
	p := both(t, 1)
	n := sent(batch(1, 0, start(), upTo(0), at(-1, 0), at(-1, 1)))
	p.handle(t, n)
	n.Nums[2], n.Nums[3], n.Nums[4] = 0, least, 1
	n.Entries[0], n.Entries[1] = entry(at(0, 5)), entry(at(0, 6))
	p.handle(t, n)
	n.Nums[0] = 99
	n.Entries[0], n.Entries[1] = odd(), odd()
	want := []api.Batch{
		batch(1, 0, start(), upTo(0), at(-1, 0), at(-1, 1)),
		batch(1, 0, upTo(0), upTo(1), at(0, 5), at(0, 6)),
	}
	if got := p.o.Log(); !slices.EqualFunc(got, want, equal) {
		t.Errorf("the log is %v, want %v", short(got...), short(want...))
	}
	p.expect(t)
}
