package plan_test

import (
	"math"
	"math/big"
	"slices"
	"testing"

	"estuary/api"
	"estuary/plan"
)

const (
	least    = math.MinInt
	greatest = math.MaxInt
	errPlan  = api.Errno(14)
)

// The roles, by their numbers.
const (
	isSource = 1
	isTender = 2
	isKeeper = 3
	isSink   = 4
)

// edges is numbers at which an answer may turn, rising, each once: near 0 and near each limit, at the numbers' ends, and such that come to small ones where bits are lost.
func edges() []int {
	list := []int{math.MinInt32, math.MaxInt32, 1 << 62, -1 << 62, 6, 7, 8, 9, 10, 11, 12, 13}
	for i := range 5 {
		list = append(list, i, -i, least+i, greatest-i, 1<<8+i, 1<<16+i, 1<<31+i, 1<<32+i, -1<<32+i, 1<<62+i)
	}
	for _, limit := range []int{16, 20, 64, 1024} {
		list = append(list, limit-1, limit, limit+1, -limit)
	}
	slices.Sort(list)
	return slices.Compact(list)
}

// few is some of the edges, for sweeps over several numbers at once.
func few() []int {
	return []int{least, least + 1, -1 << 32, -5, -2, -1, 0, 1, 2, 3, 4, 5, 6, 1<<32 + 1, greatest - 1, greatest}
}

// ordinary is a good plan, of which each call is a new one.
func ordinary() api.Plan {
	return api.Plan{Sources: 2, Keepers: 3, Res: []int{10, 60}, Shards: 2, Hold: 4, Cells: 9, Batch: 2, Lease: 3}
}

// lowest is the plan of the least good numbers, highest that of the greatest ones.
func lowest() api.Plan {
	return api.Plan{Sources: 1, Keepers: 1, Res: []int{1}, Shards: 1, Hold: 1, Cells: 1, Batch: 1, Lease: 1}
}

func highest() api.Plan {
	return api.Plan{Sources: 4, Keepers: 5, Res: []int{greatest, greatest, greatest}, Shards: 4, Hold: 64, Cells: 1024, Batch: 16, Lease: 20}
}

// starts is good plans from which others are made by another number at one place.
func starts() []api.Plan {
	return []api.Plan{ordinary(), lowest(), highest()}
}

// field is one of a plan's numbers: where it stands, and which ones are good there, as the chapter writes them.
type field struct {
	name string
	at   func(p *api.Plan) *int
	good []int
}

// fields is all of a plan's numbers beside its resolutions.
var fields = []field{
	{"Sources", func(p *api.Plan) *int { return &p.Sources }, []int{1, 2, 3, 4}},
	{"Keepers", func(p *api.Plan) *int { return &p.Keepers }, []int{1, 3, 5}},
	{"Shards", func(p *api.Plan) *int { return &p.Shards }, []int{1, 2, 3, 4}},
	{"Hold", func(p *api.Plan) *int { return &p.Hold }, upTo(64)},
	{"Cells", func(p *api.Plan) *int { return &p.Cells }, upTo(1024)},
	{"Batch", func(p *api.Plan) *int { return &p.Batch }, upTo(16)},
	{"Lease", func(p *api.Plan) *int { return &p.Lease }, upTo(20)},
}

// upTo is the numbers from 1 to another one.
func upTo(most int) []int {
	var list []int
	for n := 1; n <= most; n++ {
		list = append(list, n)
	}
	return list
}

// isGood tells whether a plan is good, by the model.
func isGood(p api.Plan) bool {
	switch len(p.Res) {
	case 1, 2, 3:
	default:
		return false
	}
	if slices.Min(p.Res) <= 0 {
		return false
	}
	for _, f := range fields {
		if !slices.Contains(f.good, *f.at(&p)) {
			return false
		}
	}
	return true
}

// part is what a node is: its role, and which one of it.
type part struct{ role, i int }

// cast is what each node is, one node behind the other, by the model; none of a plan that isn't good.
func cast(p api.Plan) []part {
	if !isGood(p) {
		return nil
	}
	var list []part
	for i := 0; i < p.Sources; i++ {
		list = append(list, part{isSource, i})
	}
	list = append(list, part{isTender, 0}, part{isTender, 1})
	for i := 0; i < p.Keepers; i++ {
		list = append(list, part{isKeeper, i})
	}
	return append(list, part{isSink, 0})
}

// lane is the lane of a resolution and a key of a good plan, by the model.
func lane(p api.Plan, i, key int) (int, bool) {
	if i < 0 || i >= len(p.Res) {
		return 0, false
	}
	// With a divisor above 0 the model's Mod is never below 0.
	shard := new(big.Int).Mod(big.NewInt(int64(key)), big.NewInt(int64(p.Shards)))
	return i*p.Shards + int(shard.Int64()), true
}

// nodesOf is a role's nodes, by the model.
func nodesOf(list []part, role int) []int {
	var nodes []int
	for n, x := range list {
		if x.role == role {
			nodes = append(nodes, n)
		}
	}
	return nodes
}

// expectCounts holds Check, Lanes and Nodes of a plan against the model.
func expectCounts(t *testing.T, p api.Plan) {
	t.Helper()
	good := isGood(p)
	if err := plan.Check(p); good && err != nil || !good && err != errPlan {
		t.Fatalf("Check(%v): %v", p, err)
	}
	lanes := 0
	if good {
		lanes = len(p.Res) * p.Shards
	}
	if got := plan.Lanes(p); got != lanes {
		t.Fatalf("Lanes(%v): %d, not %d", p, got, lanes)
	}
	if got, want := plan.Nodes(p), len(cast(p)); got != want {
		t.Fatalf("Nodes(%v): %d, not %d", p, got, want)
	}
}

// expectNodes holds Node, Role and Of of a plan against the model, at each of these numbers.
func expectNodes(t *testing.T, p api.Plan, numbers []int) {
	t.Helper()
	list := cast(p)
	for _, n := range numbers {
		want, known := part{}, n >= 0 && n < len(list)
		if known {
			want = list[n]
		}
		if role, i, ok := plan.Role(p, n); role != want.role || i != want.i || ok != known {
			t.Fatalf("Role(%v, %d): %d, %d, %v, not %v, %v", p, n, role, i, ok, want, known)
		}
		if got, want := plan.Of(p, n), nodesOf(list, n); !slices.Equal(got, want) {
			t.Fatalf("Of(%v, %d): %v, not %v", p, n, got, want)
		}
		for _, i := range numbers {
			want := slices.Index(list, part{n, i})
			known := want >= 0
			if got, ok := plan.Node(p, n, i); got != max(want, 0) || ok != known {
				t.Fatalf("Node(%v, %d, %d): %d, %v, not %d, %v", p, n, i, got, ok, want, known)
			}
		}
	}
}

// expectLanes holds Lane of a plan against the model, at each of these numbers.
func expectLanes(t *testing.T, p api.Plan, numbers []int) {
	t.Helper()
	good := isGood(p)
	for _, i := range numbers {
		for _, key := range numbers {
			want, known := 0, false
			if good {
				want, known = lane(p, i, key)
			}
			if got, ok := plan.Lane(p, i, key); got != want || ok != known {
				t.Fatalf("Lane(%v, %d, %d): %d, %v, not %d, %v", p, i, key, got, ok, want, known)
			}
		}
	}
}

// expectAll holds all calls of a plan against the model, at each of these numbers.
func expectAll(t *testing.T, p api.Plan, numbers []int) {
	t.Helper()
	expectCounts(t, p)
	expectNodes(t, p, numbers)
	expectLanes(t, p, numbers)
}

// sizes is a good plan of each number of sources, keepers, resolutions and shards.
func sizes() []api.Plan {
	var list []api.Plan
	for sources := 1; sources <= 4; sources++ {
		for keepers := 1; keepers <= 5; keepers += 2 {
			for _, res := range [][]int{{10}, {10, 60}, {10, 60, 3600}} {
				for shards := 1; shards <= 4; shards++ {
					p := ordinary()
					p.Sources, p.Keepers, p.Res, p.Shards = sources, keepers, slices.Clone(res), shards
					list = append(list, p)
				}
			}
		}
	}
	return list
}
