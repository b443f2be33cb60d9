package audit_test

import (
	"slices"
	"testing"

	"estuary/api"
)

// variant is one way in which a part of a batch stands.
type variant func(b *api.Batch)

// variants is of each part of a batch the ways in which it stands, right and wrong ones, for the batch of lane 1 behind window 0 of spread's streams, in epoch 3.
func variants(p api.Plan, streams [][]api.Op) [][]variant {
	cells := func(b *api.Batch) { b.Entries = between(p, streams, b.Lane, b.From, b.To) }
	return [][]variant{
		{
			func(b *api.Batch) { b.Epoch = 3 },
			func(b *api.Batch) { b.Epoch = 4 },
			func(b *api.Batch) { b.Epoch = 2 },
			func(b *api.Batch) { b.Epoch = 0 },
		}, {
			func(b *api.Batch) { b.Lane = 1 },
			func(b *api.Batch) { b.Lane = 2 },
			func(b *api.Batch) { b.Lane = 4 },
			func(b *api.Batch) { b.Lane = -1 },
		}, {
			func(b *api.Batch) { b.From = upTo(0) },
			func(b *api.Batch) { b.From = upTo(-1) },
			func(b *api.Batch) { b.From = at(0, 2) },
			func(b *api.Batch) { b.From = start() },
			func(b *api.Batch) { b.From = upTo(4) },
		}, {
			func(b *api.Batch) { b.To = upTo(4) },
			func(b *api.Batch) { b.To = upTo(1) },
			func(b *api.Batch) { b.To = upTo(9) },
			func(b *api.Batch) { b.To = b.From },
			func(b *api.Batch) { b.To = upTo(-9) },
		}, {
			cells,
			func(b *api.Batch) { b.Entries = nil },
			func(b *api.Batch) {
				cells(b)
				b.Entries = append(b.Entries, api.Entry{Place: at(b.To.Win-1, greatest), Cell: api.Cell{Count: 1}})
			},
			func(b *api.Batch) {
				cells(b)
				for i := range b.Entries {
					b.Entries[i].Cell.Min++
				}
			},
			func(b *api.Batch) {
				cells(b)
				slices.Reverse(b.Entries)
			},
			func(b *api.Batch) {
				cells(b)
				for i := range 17 {
					b.Entries = append(b.Entries, api.Entry{Place: at(9, i), Cell: api.Cell{Count: 1}})
				}
			},
		},
	}
}

// each calls a function with each choice of one variant of each part.
func each(parts [][]variant, b api.Batch, do func(b api.Batch)) {
	if len(parts) == 0 {
		do(b)
		return
	}
	for _, v := range parts[0] {
		next := b
		v(&next)
		each(parts[1:], next, do)
	}
}

// P21.1: of several errors at once the first one named is the answer, with all choices of right and wrong parts, of which each error occurs by itself, and any of them together.
func TestCheckOfManyFaults(t *testing.T) {
	p, streams := spread()
	log := chain(p, streams, 3, 1, upTo(-1), upTo(0))
	order := []error{errForm, errStale, errNotYet, errRange}
	met := map[int]int{} // by which faults there are, as bits
	each(variants(p, streams), api.Batch{}, func(b api.Batch) {
		faulty := 0
		for _, err := range faults(p, streams, log, b) {
			faulty |= 1 << slices.Index(order, err)
		}
		met[faulty]++
		expectCheck(t, p, streams, append(slices.Clone(log), b))
	})
	for faulty := range 16 {
		if met[faulty] == 0 {
			t.Errorf("no batch with the faults %04b", faulty)
		}
	}
}

// P21.1: the same where nothing is closed: no batch is right there.
func TestCheckOfManyFaultsWhereNothingIsClosed(t *testing.T) {
	p, streams := spread()
	streams[1] = streams[1][:5]
	each(variants(p, streams), api.Batch{}, func(b api.Batch) {
		if expectCheck(t, p, streams, []api.Batch{b}) == nil {
			t.Fatalf("%v is right", short(b))
		}
	})
}
