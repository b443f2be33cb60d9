package tender_test

import (
	"slices"
	"testing"

	"estuary/api"
)

// forger makes notes to a tender, such as come from its cluster and such as don't.
type forger struct {
	scramble
	o     *pair
	asked []api.Note // the NPrepares of its last round
	old   []api.Note // of the round ahead of that
}

// heard takes what the tender sends.
func (f *forger) heard(list []api.Note) {
	if some := of(list, isPrepare); len(some) > 0 {
		f.asked, f.old = some, f.asked
	}
}

// round is the key and the ballot of a round: mostly of the last one.
func (f *forger) round() (int, api.Ballot) {
	key, b, ok := prepared(f.asked)
	if old, prior, some := prepared(f.old); some && f.next(6) == 0 {
		key, b, ok = old, prior, true
	}
	switch n := f.next(30); {
	case n == 0 || !ok:
		b = f.ballot()
	case n == 1:
		b.N += f.next(3) - 1
	case n == 2:
		b.Node++
	case n == 3:
		b.Life--
	case n == 4:
		key = f.next(4) - 1
	}
	return key, b
}

// ballot is a small ballot, or none.
func (f *forger) ballot() api.Ballot {
	return api.Ballot{N: f.next(4) - 1, Node: f.next(5) - 1, Life: f.next(4) - 1}
}

// above is a ballot near one, mostly above it.
func (f *forger) above(b api.Ballot) api.Ballot {
	b.N += f.next(4) - 1
	b.Node += f.next(3) - 1
	b.Life += f.next(3) - 1
	return b
}

// place is a place near the bases.
func (f *forger) place() api.Place {
	switch f.next(40) {
	case 0:
		return at(greatest, greatest)
	case 1, 2, 3, 4:
		return start()
	}
	p := f.o.x.Base(f.next(lanes(f.o.m.p)))
	if p.Win == least || p.Win > 1<<40 {
		p.Win = f.next(5) - 2
	}
	return at(p.Win+f.next(2), []int{least, -1, 0, 1, 2, greatest}[f.next(6)])
}

// places is a place for each lane, now and then some more or less.
func (f *forger) places() []api.Place {
	var list []api.Place
	n := lanes(f.o.m.p)
	if f.next(15) == 0 {
		n = max(0, n+f.next(3)-1)
	}
	for range n {
		list = append(list, f.place())
	}
	return list
}

// value is the value of a register: none, a lease of this tender or another one, places, what it has already, or some numbers.
func (f *forger) value() []int {
	switch f.next(12) {
	case 0:
		return nil
	case 1, 2, 3:
		return lease(1+f.next(3), f.o.m.node, f.o.m.life, f.next(3))
	case 4:
		return lease(f.next(4), f.o.m.node+f.next(2), f.o.m.life+f.next(2)-1, f.next(3))
	case 5, 6:
		return numbers(f.places()...)
	case 7, 8:
		value, _, _ := f.o.m.cursor()
		return slices.Clone(value)
	case 9, 10:
		if l, ok := f.o.x.Lease(); ok {
			return lease(l.Epoch, l.Holder, l.Life, l.Beat)
		}
	}
	return slices.Repeat([]int{f.next(3)}, f.next(mostValue+1))
}

// ops is operations of a source from a number on, mostly rising ones, and up to which number they are.
func (f *forger) ops(source, from int) ([]api.Op, int) {
	var list []api.Op
	last := from - 1
	for range f.next(6) {
		last++
		if f.next(12) == 0 {
			last += f.next(3) - 1
		}
		o := sampleOf(last, f.next(60)-20, f.next(4)-1)
		if f.next(3) == 0 {
			mark, _ := f.o.m.basin.Mark(source)
			o = markOf(last, mark+f.next(20)-2)
		}
		list = append(list, o)
	}
	if f.next(5) == 0 {
		last += f.next(4) - 1
	}
	return list, last
}

// note is some note.
func (f *forger) note() api.Note {
	key, b := f.round()
	keeper := f.next(f.o.m.p.Keepers)
	switch n := f.next(12); {
	case n < 3:
		return f.o.promise(keeper, key, b, f.above(api.Ballot{N: 1}), f.value()...)
	case n < 6:
		return f.o.done(keeper, key, b)
	case n == 6:
		return f.o.no(keeper, key, b, f.above(b))
	case n < 10:
		source := f.next(f.o.m.p.Sources)
		from := f.o.x.Next(source)
		if f.next(8) == 0 {
			from += f.next(3) - 1
		}
		ops, last := f.ops(source, from)
		cut := starts(f.o.m.p)
		if f.next(12) == 0 {
			cut = f.places()
		}
		return f.o.replay(source, from, last, cut, ops...)
	}
	return f.o.ack(f.next(lanes(f.o.m.p)+2)-1, f.next(9), f.place())
}

// spoil changes something of a note.
func (f *forger) spoil(n api.Note) api.Note {
	switch f.next(7) {
	case 0:
		n.From = f.next(sinkNode(f.o.m.p)+4) - 1
	case 1:
		n.To = f.next(sinkNode(f.o.m.p)+4) - 1
	case 2:
		n.Kind = f.next(12) - 1
	case 3:
		n.Nums = n.Nums[:f.next(len(n.Nums)+1)]
	case 4:
		n.Nums = append(n.Nums, f.next(5))
	case 5:
		n.Ops = append(n.Ops, api.Op{Seq: f.next(9), Kind: f.next(4), Time: f.next(9)})
	case 6:
		n.Entries = append(n.Entries, api.Entry{Place: f.place(), Cell: api.Cell{Count: 1}})
	}
	return n
}

// P20.1: rows of Ticks and notes of all kinds, such as come and such as don't, in any order: a tender answers and sends what the chapter's words say. P20.3: so it never holds more cells than its plan says.
func TestAnyNotes(t *testing.T) {
	plans := append(sizes(), clusters()[1], clusters()[14])
	led, batches, swapped := 0, 0, 0
	for seed := range 90 {
		p := plans[seed%len(plans)]
		p.Cells = []int{3, 12, 40, 200}[seed%4]
		f := &forger{scramble: scramble(seed), o: made(t, tenderNode(p, seed%2), seed%3, p)}
		for range 2500 {
			if f.next(7) == 0 {
				list := f.o.tick(t)
				f.heard(list)
				batches += len(of(list, isBatch))
				continue
			}
			n := f.note()
			if f.next(15) == 0 {
				n = f.spoil(n)
			}
			f.o.handle(t, n)
			if _, leads := f.o.x.Leads(); leads {
				led++
			}
			if r := f.o.m.talk; r != nil && r.key == 1 && r.change.Kind == api.ChSwap && f.o.m.most(len(r.promises)) && slices.Equal(r.value(), r.change.New) {
				swapped++
			}
		}
	}
	if led < 20000 || batches < 5000 || swapped < 400 {
		t.Errorf("it leads behind %d notes, sends %d batches, tells of swaps of the cursor behind %d notes", led, batches, swapped)
	}
}
