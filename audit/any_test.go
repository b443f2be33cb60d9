package audit_test

import (
	"slices"
	"testing"

	"estuary/api"
	"estuary/audit"
)

// anyPlan is a plan of few sources, resolutions and shards.
func (s *scramble) anyPlan() api.Plan {
	res := []int{s.of(1, 5, 10), s.of(5, 10, 30), s.of(1, 20, greatest)}
	return api.Plan{Sources: 1 + s.next(4), Keepers: s.of(1, 3, 5), Res: res[:1+s.next(3)], Shards: 1 + s.next(4), Hold: 1 + s.next(64), Cells: 1 + s.next(1024), Batch: 1 + s.next(16), Lease: 1 + s.next(20)}
}

// source is one source's stream as it grows, which keeps to its marks.
type source struct {
	ops  []api.Op
	mark int
}

// grow puts one more operation: a sample of a time that isn't below the last mark, or a mark that isn't either.
func (x *source) grow(s *scramble) {
	seq := len(x.ops) + 1
	if s.next(4) == 0 {
		x.mark += s.next(12)
		x.ops = append(x.ops, mark(seq, x.mark))
		return
	}
	x.ops = append(x.ops, sample(seq, x.mark+s.next(25), s.next(5)-2, s.next(2000)-1000))
}

// sources is so many streams as they grow, at first with nothing in them.
func (s *scramble) sources(n int) []*source {
	list := make([]*source, n)
	for i := range list {
		list[i] = &source{mark: s.next(40) - 30}
	}
	return list
}

// streamsOf is what stands in streams.
func streamsOf(list []*source) [][]api.Op {
	var streams [][]api.Op
	for _, x := range list {
		streams = append(streams, slices.Clone(x.ops))
	}
	return streams
}

// kept is streams that keep to their marks, of so many operations in all.
func (s *scramble) kept(p api.Plan, n int) [][]api.Op {
	list := s.sources(p.Sources)
	for range n {
		list[s.next(len(list))].grow(s)
	}
	return streamsOf(list)
}

// loose is streams that keep to nothing, of so many operations in all.
func (s *scramble) loose(p api.Plan, n int) [][]api.Op {
	streams := make([][]api.Op, p.Sources)
	for range n {
		i := s.next(p.Sources)
		o := api.Op{Seq: s.next(9), Kind: s.of(isSample, isSample, isMark), Time: s.next(60) - 30, Key: s.next(5) - 2, Value: s.next(200) - 100}
		streams[i] = append(streams[i], o)
	}
	return streams
}

// log is a log that is right, cut anywhere, its lanes mixed, up to what is closed or not so far.
func (s *scramble) log(p api.Plan, streams [][]api.Op) []api.Batch {
	var log []api.Batch
	epochs := make([]int, lanes(p))
	froms := slices.Repeat([]api.Place{start()}, lanes(p))
	for range s.next(12) {
		lane := s.next(lanes(p))
		to := at(s.next(16)-8, s.next(7)-3)
		closed, ok := closedBy(p, streams, lane)
		if s.next(3) == 0 {
			to = closed
		}
		if !ok || ahead(closed, to) || !ahead(froms[lane], to) {
			continue
		}
		b := batchOf(p, streams, epochs[lane]+max(1-epochs[lane], s.next(3)), lane, froms[lane], to)
		if len(b.Entries) <= mostEntries {
			log = append(log, b)
			epochs[lane], froms[lane] = b.Epoch, to
		}
	}
	return log
}

// spoil changes something of a log, which it is to have for its own; it may be right behind that.
func (s *scramble) spoil(log []api.Batch) []api.Batch {
	if len(log) == 0 {
		return []api.Batch{{Epoch: s.next(2), Lane: s.next(3), From: start(), To: upTo(s.next(9) - 4)}}
	}
	i, j := s.next(len(log)), s.next(len(log))
	b := &log[i]
	switch s.next(12) {
	case 0:
		b.Epoch += s.next(5) - 2
	case 1:
		b.Lane += s.next(3) - 1
	case 2:
		b.From.Key++
	case 3:
		b.To.Win += s.next(3) - 1
	case 4:
		b.To = b.From
	case 5:
		log[i], log[j] = log[j], log[i]
	case 6:
		return slices.Insert(log, i, log[j])
	case 7:
		return slices.Delete(log, i, i+1)
	default:
		s.spoilEntries(b)
	}
	return log
}

// spoilEntries changes something of a batch's entries.
func (s *scramble) spoilEntries(b *api.Batch) {
	if len(b.Entries) == 0 {
		b.Entries = []api.Entry{{Place: at(s.next(4)-2, s.next(3)), Cell: api.Cell{Count: 1}}}
		return
	}
	i, j := s.next(len(b.Entries)), s.next(len(b.Entries))
	switch s.next(5) {
	case 0:
		b.Entries = slices.Delete(b.Entries, i, i+1)
	case 1:
		b.Entries[i], b.Entries[j] = b.Entries[j], b.Entries[i]
	case 2:
		b.Entries[i].Cell.Last.Seq += s.next(2)
	case 3:
		b.Entries[i].Key += s.next(2)
	default:
		b.Entries[i].Cell.Hist[s.next(65)] -= s.next(2)
	}
}

// P21.1: streams without an order, of any plan: all that is told of them.
func TestAnyStreams(t *testing.T) {
	for seed := range 120 {
		s := scramble(seed)
		p := s.anyPlan()
		streams := s.kept(p, s.next(30))
		if seed%2 == 0 {
			streams = s.loose(p, s.next(30))
		}
		expectAll(t, p, streams)
		for range 30 {
			expectRead(t, p, streams, s.next(5)-1, s.next(16)-8, s.next(7)-3)
			expectCell(t, p, streams, named(s.next(14)-1, s.next(16)-8, s.next(7)-3))
		}
	}
}

// P21.1: logs that are right, and such as are changed somewhere: each error is met, and nil too.
func TestAnyLogs(t *testing.T) {
	met := map[error]int{}
	for seed := range 400 {
		s := scramble(seed)
		p := s.anyPlan()
		streams := s.kept(p, 10+s.next(40))
		if seed%3 == 0 {
			streams = s.loose(p, 10+s.next(40))
		}
		log := s.log(p, streams)
		if err := expectCheck(t, p, streams, log); err != nil {
			t.Fatalf("%v: %v", short(log...), err)
		}
		for range 6 {
			other := cloned(log)
			for range 1 + s.next(2) {
				other = cloned(s.spoil(other))
			}
			met[expectCheck(t, p, streams, other)]++
		}
	}
	for _, err := range []error{nil, errForm, errStale, errNotYet, errRange} {
		if met[err] < 20 {
			t.Errorf("%v is met %d times", err, met[err])
		}
	}
}

// P21.1, rule 8: what a call answers depends on its arguments alone: asked again, among others, it is the same.
func TestAnswersAreTheSameAgain(t *testing.T) {
	s := scramble(3)
	p := s.anyPlan()
	streams := s.kept(p, 60)
	first, err := audit.Ids(p, streams)
	if err != nil || len(first) == 0 {
		t.Fatal(first, err)
	}
	for range 50 {
		other := s.anyPlan()
		expectIds(t, other, s.loose(other, 10))
		if again, _ := audit.Ids(p, streams); !slices.Equal(again, first) {
			t.Fatalf("%v, and %v before", again, first)
		}
	}
}
