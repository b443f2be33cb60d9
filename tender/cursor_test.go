package tender_test

import (
	"slices"
	"testing"

	"estuary/api"
)

// cursorOf checks the cursor, and that the next Tick tells it to the sources.
func (o *pair) cursorOf(t *testing.T, want []api.Place, seen bool) {
	t.Helper()
	if got, ok := o.x.Cursor(); !slices.Equal(got, want) || ok != seen {
		t.Fatalf("Cursor: %v, %v, want %v, %v", got, ok, want, seen)
	}
	is(t, of(o.tick(t), isNeed), o.needsOf(want, o.x.Next(0), o.x.Next(1))...)
}

// some is a place of each of four lanes, each its own.
func some() []api.Place {
	return []api.Place{at(3, least), at(-4, 7), at(greatest, greatest), at(least, least)}
}

// P20.1: the cursor isn't seen till a round of key 1 is done; no value counts as the least places, a place for each lane as these.
func TestCursor(t *testing.T) {
	for _, value := range [][]int{nil, numbers(some()...), numbers(starts(ordinary())...), make([]int, 8)} {
		o := first(t, 0, ordinary())
		o.cursorOf(t, nil, false)
		o.settle(t, 0, value...)
		o.cursorOf(t, nil, false)
		b := o.begin(t, 1)
		o.promised(t, 1, b, value...)
		o.cursorOf(t, nil, false)
		o.accepted(t, 1, b)
		want := placed(value)
		if len(value) == 0 {
			want = starts(o.m.p)
		}
		o.cursorOf(t, want, true)
		o.based(t, want...)
	}
}

// P20.1: a value of another form counts as not seen, whatever was seen ahead of it; nothing is raised by it.
func TestCursorOfAnotherForm(t *testing.T) {
	for n := range mostValue + 1 {
		value := slices.Repeat([]int{9}, n)
		want, seen := placed(value), n == 8
		if n == 0 {
			want, seen = starts(ordinary()), true
		}
		if !seen {
			want = nil
		}
		o := first(t, 0, ordinary())
		o.settle(t, 1, value...)
		o.cursorOf(t, want, seen)
		if n != 8 {
			o.based(t, starts(o.m.p)...)
		}
		o.settle(t, 1, numbers(some()...)...)
		o.cursorOf(t, some(), true)
		bases := o.bases()
		o.settle(t, 1, value...)
		o.cursorOf(t, want, seen)
		if n != 8 {
			o.based(t, bases...)
		}
	}
}

// bases is the base of each lane.
func (o *pair) bases() []api.Place {
	var list []api.Place
	for lane := range lanes(o.m.p) {
		list = append(list, o.x.Base(lane))
	}
	return list
}

// P20.1: the cursor is what was seen last, also where that goes back; the bases never do.
func TestCursorThatGoesBack(t *testing.T) {
	o := first(t, 0, ordinary())
	up := []api.Place{at(5, 5), at(1, 1), at(7, 7), at(0, 0)}
	down := []api.Place{at(4, 9), at(1, 2), at(7, 6), at(-1, 0)}
	o.settle(t, 1, numbers(up...)...)
	o.settle(t, 1, numbers(down...)...)
	o.cursorOf(t, down, true)
	o.based(t, at(5, 5), at(1, 2), at(7, 7), at(0, 0))
	o.settle(t, 1)
	o.cursorOf(t, starts(o.m.p), true)
	o.based(t, at(5, 5), at(1, 2), at(7, 7), at(0, 0))
}

// P20.1: by plans of other numbers of lanes other values are cursors.
func TestCursorByLanes(t *testing.T) {
	for _, res := range [][]int{{10}, {10, 20}, {10, 20, 30}} {
		for shards := 1; shards <= 4; shards++ {
			p := ordinary()
			p.Res, p.Shards = res, shards
			for n := range mostValue + 1 {
				o := first(t, 0, p)
				o.settle(t, 1, slices.Repeat([]int{2}, n)...)
				if _, ok := o.x.Cursor(); ok != (n == 0 || n == 2*len(res)*shards) {
					t.Errorf("%d numbers, %d lanes: %v", n, len(res)*shards, ok)
				}
			}
		}
	}
}

// sees lets a round of key 1 come to a value, which none of them changes.
func (o *pair) sees(t *testing.T, value ...int) {
	t.Helper()
	if told := o.settle(t, 1, value...); !slices.Equal(told, value) {
		t.Fatalf("told %v, of %v", told, value)
	}
}

// P20.1: without the lease, a round of key 1 reads, however far the bases are beyond the cursor.
func TestReadsWithoutTheLease(t *testing.T) {
	for _, l := range [][]int{nil, lease(1, 3, 0, 0), lease(1, 2, 1, 0), lease(1, 3, 1, 0), lease(0, 2, 0, 0), {1, 2, 0}} {
		o := first(t, 0, ordinary())
		o.sees(t)
		o.settle(t, 0, l...)
		o.leads(t, 0)
		for lane := range 4 {
			o.handle(t, o.ack(lane, 1, upTo(9)))
		}
		o.sees(t)
		o.sees(t, make([]int, 8)...)
		o.sees(t, 1, 2, 3)
	}
}

// P20.1: without a cursor that was seen it reads, too: with none yet, and with one of another form.
func TestReadsWithoutACursor(t *testing.T) {
	for _, value := range [][]int{nil, {7}, numbers(starts(ordinary())...)} {
		for _, spoil := range []bool{false, true} {
			o := first(t, 0, ordinary())
			o.lead(t, 2)
			if spoil {
				o.sees(t)
				o.sees(t, 1, 2, 3)
			}
			for lane := range 4 {
				o.handle(t, o.ack(lane, 1, upTo(9)))
			}
			o.sees(t, value...)
		}
	}
}

// P20.1: with no base beyond the cursor's places it reads, also where all are just there.
func TestReadsWithNoBaseBeyond(t *testing.T) {
	o := first(t, 0, ordinary())
	o.lead(t, 2)
	o.sees(t)
	o.sees(t)
	o.sees(t, numbers(some()...)...)
	o.sees(t)
	o = first(t, 0, ordinary())
	o.lead(t, 2)
	places := slices.Repeat([]api.Place{at(8, 1)}, 4)
	o.sees(t, numbers(places...)...)
	for lane := range 4 {
		for _, p := range []api.Place{at(8, 1), at(8, 0), at(7, greatest)} {
			o.handle(t, o.ack(lane, 1, p))
			o.sees(t, numbers(places...)...)
		}
	}
}

// P20.1: with a base beyond, it swaps the cursor, just as it was seen, into the greater ones of its places and the bases.
func TestSwapsTheCursor(t *testing.T) {
	for lane := range 4 {
		for _, p := range []api.Place{at(8, 2), at(9, least), at(greatest, greatest)} {
			o := first(t, 0, ordinary())
			o.lead(t, 2)
			places := slices.Repeat([]api.Place{at(8, 1)}, 4)
			was := numbers(places...)
			o.sees(t, was...)
			o.handle(t, o.ack(lane, 1, p))
			places[lane] = p
			b := o.begin(t, 1)
			if told := o.promised(t, 1, b, was...); !slices.Equal(told, numbers(places...)) {
				t.Fatalf("told %v, want %v", told, places)
			}
			// It is the cursor once the round is done, and not ahead of that.
			if now, _ := o.x.Cursor(); !slices.Equal(numbers(now...), was) {
				t.Fatalf("the cursor is %v", now)
			}
			o.accepted(t, 1, b)
			o.cursorOf(t, places, true)
			o.sees(t, numbers(places...)...)
		}
	}
}

// P20.1: each lane has the greater one of its two places.
func TestSwapsIntoTheGreaterOnes(t *testing.T) {
	o := first(t, 0, ordinary())
	o.lead(t, 2)
	high := []api.Place{at(5, 5), at(6, 6), at(7, 7), at(8, 8)}
	o.sees(t, numbers(high...)...)
	o.handle(t, o.ack(1, 1, at(6, 9)))
	o.handle(t, o.ack(3, 1, at(9, 0)))
	// The bases of lanes 0 and 2 are beyond this cursor, that of lane 3 is behind it.
	low := []api.Place{at(4, 4), at(6, 9), at(least, least), at(50, 0)}
	if told := o.settle(t, 1, numbers(low...)...); !slices.Equal(told, numbers(low...)) {
		t.Fatalf("the swap isn't stale: %v", told)
	}
	o.cursorOf(t, low, true)
	want := []api.Place{at(5, 5), at(6, 9), at(7, 7), at(50, 0)}
	if told := o.settle(t, 1, numbers(low...)...); !slices.Equal(told, numbers(want...)) {
		t.Fatalf("told %v, want %v", told, want)
	}
	o.cursorOf(t, want, true)
	o.based(t, want...)
}

// P20.1: a cursor that was seen as no value is swapped from that, and one of places from these, be they the least ones: any other value is told as it is, and is the cursor then.
func TestSwapsWhatWasSeen(t *testing.T) {
	leastOnes := numbers(starts(ordinary())...)
	for _, was := range [][]int{nil, leastOnes} {
		for _, is := range [][]int{nil, leastOnes, numbers(some()...), {1, 2}} {
			o := first(t, 0, ordinary())
			o.lead(t, 2)
			o.sees(t, was...)
			o.handle(t, o.ack(2, 1, at(9, 0)))
			want := is
			if slices.Equal(was, is) {
				want = slices.Concat(leastOnes[:4], []int{9, 0}, leastOnes[6:])
			}
			if told := o.settle(t, 1, is...); !slices.Equal(told, want) {
				t.Errorf("seen as %v, now %v: told %v, want %v", was, is, told, want)
			}
			if _, ok := o.x.Cursor(); ok != (len(is) != 2) {
				t.Errorf("seen as %v, now %v: seen is %v", was, is, ok)
			}
		}
	}
}

// P20.1: the change is that of the Tick in which the round begins, whatever comes to be known then.
func TestChangeIsMadeWithTheTick(t *testing.T) {
	o := first(t, 0, ordinary())
	o.lead(t, 2)
	o.sees(t)
	b := o.begin(t, 1)
	o.handle(t, o.ack(0, 1, upTo(9)))
	if told := o.promised(t, 1, b); len(told) != 0 {
		t.Fatalf("a read told %v", told)
	}
	b = o.begin(t, 1)
	o.handle(t, o.ack(0, 1, upTo(12)))
	want := starts(o.m.p)
	want[0] = upTo(9)
	if told := o.promised(t, 1, b); !slices.Equal(told, numbers(want...)) {
		t.Fatalf("told %v, want %v", told, want)
	}
	o.accepted(t, 1, b)
	o.based(t, upTo(12), start(), start(), start())
	o.cursorOf(t, want, true)
}

// P20.1: of key 0 a round does what the watch wants: it reads, takes the lease once that is as old as it is long, and renews it while it is its own.
func TestChangesOfTheLease(t *testing.T) {
	p := ordinary()
	p.Lease = 7
	o := made(t, 3, 9, p)
	ask := func(value, want []int) {
		t.Helper()
		if told := o.settle(t, 0, value...); !slices.Equal(told, want) {
			t.Fatalf("told %v of %v, want %v", told, value, want)
		}
	}
	ask(nil, nil)
	o.leads(t, 0)
	ask(nil, lease(1, 3, 9, 0))
	o.leads(t, 1)
	ask(lease(1, 3, 9, 0), lease(1, 3, 9, 1))
	ask(lease(1, 3, 9, 1), lease(1, 3, 9, 2))
	ask(lease(2, 2, 0, 0), lease(2, 2, 0, 0))
	o.leads(t, 0)
	ask(lease(2, 2, 0, 1), lease(2, 2, 0, 1))
	ask(lease(3, 3, 9, 5), lease(3, 3, 9, 5))
	o.leads(t, 3)
	ask(lease(3, 3, 9, 5), lease(3, 3, 9, 6))
	ask(lease(4, 3, 8, 0), lease(4, 3, 8, 0))
	o.leads(t, 0)
	ask([]int{1, 2, 3}, []int{1, 2, 3})
	ask([]int{1, 2, 3}, lease(1, 3, 9, 0))
	o.leads(t, 1)
}

// P20.1: the watch ticks ahead of the round's begin, so that another one's lease is taken with the very Tick with which it is old enough, and not ahead of that.
func TestTakesTheLeaseInTime(t *testing.T) {
	was := lease(4, 2, 0, 0)
	for length := 1; length <= 20; length++ {
		p := single()
		p.Lease = length
		for delay := range 2 {
			o := first(t, 0, p)
			o.settle(t, 0, was...)
			for took := false; !took; {
				key, b, ok := prepared(o.tick(t))
				if !ok {
					t.Fatalf("length %d: no round begins", length)
				}
				if key == 1 {
					for range delay {
						o.tick(t)
					}
					delay = 0
					o.promised(t, key, b)
					o.accepted(t, key, b)
					continue
				}
				// The lease was seen with the first Tick.
				age, want := o.m.ticks-1, was
				if took = age >= length; took {
					want = lease(5, 1, 0, 0)
				}
				if told := o.promised(t, key, b, was...); !slices.Equal(told, want) {
					t.Fatalf("length %d, age %d: told %v, want %v", length, age, told, want)
				}
				o.accepted(t, key, b)
			}
			o.leads(t, 5)
		}
	}
}
