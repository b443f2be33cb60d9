package tender_test

import (
	"slices"
	"testing"

	"estuary/api"
	"estuary/tender"
)

// scribble writes over a list, its spare room included.
func scribble[T any](list []T, odd T) {
	whole := list[:cap(list)]
	for i := range whole {
		whole[i] = odd
	}
}

// scribbleAll writes over all lists of notes, their spare room included, and over the notes themselves.
func scribbleAll(list []api.Note) {
	for _, n := range list {
		scribble(n.Nums, -99)
		scribble(n.Ops, api.Op{Seq: -99})
		scribble(n.Entries, api.Entry{Place: at(-99, -99)})
	}
	scribble(list, api.Note{Kind: -99})
}

// roomy is a list between other things, which stand in its spare room too, and all of them.
func roomy[T any](list []T, odd T) (part, whole []T) {
	whole = slices.Concat([]T{odd}, list, []T{odd, odd, odd})
	return whole[1 : 1+len(list)], whole
}

// P20.1, rule 5: a plan that is handed in is neither changed nor kept, its resolutions' spare room included.
func TestPlanIsNeitherChangedNorKept(t *testing.T) {
	for scribbled := range 8 {
		p := ordinary()
		res, whole := roomy(p.Res, -7)
		was := slices.Clone(whole)
		p.Res = res
		x, err := tender.New(2, 0, p)
		if err != nil {
			t.Fatal(err)
		}
		o := &pair{x, newModel(t, 2, 0, ordinary())}
		for step := range 8 {
			if !slices.Equal(whole, was) {
				t.Fatalf("%v became %v", was, whole)
			}
			if step == scribbled {
				scribble(whole, -5)
				was = slices.Clone(whole)
			}
			switch step {
			case 1:
				o.lead(t, 3)
			case 2:
				o.sees(t)
			case 3:
				o.feed(t, 0, sampleOf(0, 5, 1), sampleOf(0, 17, 2))
			case 4:
				o.mark(t, 60)
			case 5:
				o.handle(t, o.ack(0, 1, upTo(1)))
			case 6:
				o.settle(t, 1)
			}
			o.tick(t)
		}
	}
}

// P20.1, rule 5: notes that are handed in are neither changed nor kept, their lists' spare room included, whatever becomes of them.
func TestNotesAreNeitherChangedNorKept(t *testing.T) {
	plans := sizes()
	for seed := range 40 {
		p := plans[seed%len(plans)]
		f := &forger{scramble: scramble(seed + 900), o: made(t, tenderNode(p, 0), 0, p)}
		for range 400 {
			if f.next(7) == 0 {
				f.heard(f.o.tick(t))
				continue
			}
			n := f.note()
			if f.next(15) == 0 {
				n = f.spoil(n)
			}
			handed := n
			nums, allNums := roomy(n.Nums, -99)
			ops, allOps := roomy(n.Ops, api.Op{Seq: -99})
			entries, allEntries := roomy(n.Entries, api.Entry{Place: at(-99, -99)})
			handed.Nums, handed.Ops, handed.Entries = nums, ops, entries
			wasNums, wasOps, wasEntries := slices.Clone(allNums), slices.Clone(allOps), slices.Clone(allEntries)
			got, want := f.o.x.Handle(handed), f.o.m.handle(n)
			if !slices.Equal(allNums, wasNums) || !slices.Equal(allOps, wasOps) || !slices.Equal(allEntries, wasEntries) {
				t.Fatalf("%v is changed", n)
			}
			scribble(allNums, -77)
			scribble(allOps, api.Op{Seq: -77})
			scribble(allEntries, api.Entry{Place: at(-77, -77)})
			// What it told its keepers, and what it holds, are as if nothing was written.
			f.o.expectSent(t, got, want)
			f.o.expect(t)
			f.o.expectCells(t)
		}
	}
}

// P20.1, rule 5: what it sends is new memory: written over, the tender goes on as it was.
func TestWhatIsSentIsNewMemory(t *testing.T) {
	plans := sizes()
	for seed := range 40 {
		p := plans[seed%len(plans)]
		f := &forger{scramble: scramble(seed + 700), o: made(t, tenderNode(p, 1), 2, p)}
		for range 400 {
			if f.next(7) == 0 {
				list := f.o.tick(t)
				f.heard(apart(t, list))
				scribbleAll(list)
				f.o.expect(t)
				f.o.expectCells(t)
				continue
			}
			list := f.o.handle(t, f.note())
			apart(t, list)
			scribbleAll(list)
			f.o.expect(t)
		}
	}
}

// apart checks that no two lists of notes share memory, their spare room included, and is a copy of the notes.
func apart(t *testing.T, list []api.Note) []api.Note {
	t.Helper()
	kept := slices.Clone(list)
	for i, n := range kept {
		kept[i].Nums = slices.Clone(n.Nums)
		kept[i].Entries = slices.Clone(n.Entries)
	}
	for i := range list {
		mine := list[i]
		nums, entries := slices.Clone(mine.Nums[:cap(mine.Nums)]), slices.Clone(mine.Entries[:cap(mine.Entries)])
		scribble(mine.Nums, -55)
		scribble(mine.Entries, api.Entry{Place: at(-55, -55)})
		for j, other := range list {
			if j != i && (!slices.Equal(other.Nums, kept[j].Nums) || !slices.Equal(other.Entries, kept[j].Entries)) {
				t.Fatalf("notes %d and %d share memory", i, j)
			}
		}
		copy(mine.Nums[:cap(mine.Nums)], nums)
		copy(mine.Entries[:cap(mine.Entries)], entries)
	}
	return kept
}

// P20.1, rule 5: cursors are new memory, be they of no value or of places.
func TestCursorIsNewMemory(t *testing.T) {
	for _, value := range [][]int{nil, numbers(some()...)} {
		o := first(t, 0, ordinary())
		o.lead(t, 4)
		o.sees(t, value...)
		for range 3 {
			first, _ := o.x.Cursor()
			second, _ := o.x.Cursor()
			want := slices.Clone(second)
			scribble(first, at(-9, -9))
			if !slices.Equal(second, want) {
				t.Fatal("two cursors share memory")
			}
			o.expect(t)
			o.tick(t)
		}
		// Nor is it written by the greater places of a swap.
		o.handle(t, o.ack(1, 1, at(50, 5)))
		before, _ := o.x.Cursor()
		was := slices.Clone(before)
		b := o.begin(t, 1)
		if after, _ := o.x.Cursor(); !slices.Equal(before, was) || !slices.Equal(after, was) {
			t.Fatalf("the cursor %v became %v", was, after)
		}
		told := o.promised(t, 1, b, value...)
		scribble(told, -99)
		o.accepted(t, 1, b)
		was[1] = at(50, 5)
		if now, _ := o.x.Cursor(); !slices.Equal(now, was) {
			t.Fatalf("the cursor is %v, want %v", now, was)
		}
	}
}

// P20.1, rule 5: tenders of one plan share nothing.
func TestTendersAreApart(t *testing.T) {
	p := ordinary()
	a, b := made(t, 2, 0, p), made(t, 3, 0, p)
	a.lead(t, 1)
	a.feed(t, 0, sampleOf(0, 5, 1))
	a.mark(t, 60)
	a.sees(t, numbers(starts(p)...)...)
	a.handle(t, a.ack(0, 1, upTo(2)))
	b.expect(t)
	b.expectCells(t)
	b.leads(t, 0)
	b.based(t, starts(p)...)
	if b.x.Next(0) != 1 || b.x.Cells() != 0 {
		t.Error(b.x.Next(0), b.x.Cells())
	}
	p.Res[0], p.Res[1] = 1, 1
	a.tick(t)
	b.tick(t)
}
