package plan_test

import (
	"slices"
	"testing"

	"estuary/api"
	"estuary/place"
	"estuary/plan"
)

// P19.1: the roles' numbers; they are no numbers of a type of their own.
func TestRoles(t *testing.T) {
	if plan.Source != isSource || plan.Tender != isTender || plan.Keeper != isKeeper || plan.Sink != isSink {
		t.Error(plan.Source, plan.Tender, plan.Keeper, plan.Sink)
	}
	var small [4]int8 = [...]int8{plan.Source, plan.Tender, plan.Keeper, plan.Sink}
	if small != [4]int8{1, 2, 3, 4} {
		t.Error(small)
	}
}

// P19.1 and P19.2: the chapter's example.
func TestExample(t *testing.T) {
	p := ordinary()
	if n := plan.Nodes(p); n != 8 {
		t.Error(n)
	}
	for role, want := range map[int][]int{isSource: {0, 1}, isTender: {2, 3}, isKeeper: {4, 5, 6}, isSink: {7}} {
		if got := plan.Of(p, role); !slices.Equal(got, want) {
			t.Errorf("Of role %d: %v", role, got)
		}
		for i, node := range want {
			if got, ok := plan.Node(p, role, i); got != node || !ok {
				t.Errorf("Node(%d, %d): %d, %v", role, i, got, ok)
			}
			if r, k, ok := plan.Role(p, node); r != role || k != i || !ok {
				t.Errorf("Role of %d: %d, %d, %v", node, r, k, ok)
			}
		}
	}
	if n := plan.Lanes(p); n != 4 {
		t.Error(n)
	}
}

// P19.1: the smallest and the greatest cluster.
func TestSmallestAndGreatest(t *testing.T) {
	p := lowest()
	if plan.Lanes(p) != 1 || plan.Nodes(p) != 5 {
		t.Error(plan.Lanes(p), plan.Nodes(p))
	}
	for role, want := range map[int][]int{isSource: {0}, isTender: {1, 2}, isKeeper: {3}, isSink: {4}} {
		if got := plan.Of(p, role); !slices.Equal(got, want) {
			t.Errorf("Of role %d: %v", role, got)
		}
	}
	p = highest()
	if plan.Lanes(p) != 12 || plan.Nodes(p) != 12 {
		t.Error(plan.Lanes(p), plan.Nodes(p))
	}
	for role, want := range map[int][]int{isSource: {0, 1, 2, 3}, isTender: {4, 5}, isKeeper: {6, 7, 8, 9, 10}, isSink: {11}} {
		if got := plan.Of(p, role); !slices.Equal(got, want) {
			t.Errorf("Of role %d: %v", role, got)
		}
	}
}

// P19.1: Node of each role at -1, at the first, the last and one behind it, and of numbers that are no role.
func TestNode(t *testing.T) {
	p := ordinary()
	for _, c := range []struct {
		role, i, want int
		ok            bool
	}{
		{isSource, -1, 0, false},
		{isSource, 0, 0, true},
		{isSource, 1, 1, true},
		{isSource, 2, 0, false},
		{isTender, -1, 0, false},
		{isTender, 0, 2, true},
		{isTender, 1, 3, true},
		{isTender, 2, 0, false},
		{isKeeper, -1, 0, false},
		{isKeeper, 0, 4, true},
		{isKeeper, 2, 6, true},
		{isKeeper, 3, 0, false},
		{isSink, -1, 0, false},
		{isSink, 0, 7, true},
		{isSink, 1, 0, false},
		{isSource, least, 0, false},
		{isTender, least, 0, false},
		{isKeeper, greatest, 0, false},
		{isKeeper, greatest - 3, 0, false},
		{isSink, greatest, 0, false},
		{isSink, 1 << 32, 0, false},
		{0, 0, 0, false},
		{5, 0, 0, false},
		{-1, 0, 0, false},
		{-4, 0, 0, false},
		{1<<32 + 1, 0, 0, false},
		{least, 0, 0, false},
		{greatest, 0, 0, false},
		{least, least, 0, false},
		{greatest, greatest, 0, false},
	} {
		if got, ok := plan.Node(p, c.role, c.i); got != c.want || ok != c.ok {
			t.Errorf("Node(%d, %d): %d, %v", c.role, c.i, got, ok)
		}
	}
}

// P19.1: Role at -1, at the first and the last node of each role, and one behind the sink.
func TestRole(t *testing.T) {
	p := ordinary()
	p.Sources, p.Keepers = 3, 5
	for _, c := range []struct {
		node, role, i int
		ok            bool
	}{
		{least, 0, 0, false},
		{-1 << 32, 0, 0, false},
		{-2, 0, 0, false},
		{-1, 0, 0, false},
		{0, isSource, 0, true},
		{1, isSource, 1, true},
		{2, isSource, 2, true},
		{3, isTender, 0, true},
		{4, isTender, 1, true},
		{5, isKeeper, 0, true},
		{9, isKeeper, 4, true},
		{10, isSink, 0, true},
		{11, 0, 0, false},
		{12, 0, 0, false},
		{1 << 32, 0, 0, false},
		{greatest, 0, 0, false},
	} {
		if role, i, ok := plan.Role(p, c.node); role != c.role || i != c.i || ok != c.ok {
			t.Errorf("Role(%d): %d, %d, %v", c.node, role, i, ok)
		}
	}
}

// P19.1: Of of numbers that are no role is none.
func TestOfNoRole(t *testing.T) {
	for _, p := range starts() {
		for _, role := range edges() {
			if got := plan.Of(p, role); len(got) > 0 && (role < isSource || role > isSink) {
				t.Errorf("Of(%v, %d): %v", p, role, got)
			}
		}
	}
}

// P19.1: Lane of each resolution, of -1 and of one behind the last, at keys below 0, above it and at the numbers' ends.
func TestLane(t *testing.T) {
	p := ordinary()
	p.Res, p.Shards = []int{10, 60, 3600}, 3
	for _, c := range []struct {
		i, key, want int
		ok           bool
	}{
		{0, 0, 0, true},
		{0, 1, 1, true},
		{0, 2, 2, true},
		{0, 3, 0, true},
		{0, -1, 2, true},
		{0, -2, 1, true},
		{0, -3, 0, true},
		{1, 0, 3, true},
		{1, 5, 5, true},
		{1, -5, 4, true},
		{2, 0, 6, true},
		{2, 100, 7, true},
		{2, -1, 8, true},
		{0, least, 1, true},
		{2, least, 7, true},
		{0, greatest, 1, true},
		{2, greatest, 7, true},
		{2, greatest - 1, 6, true},
		{-1, 0, 0, false},
		{-1, 5, 0, false},
		{3, 0, 0, false},
		{3, 5, 0, false},
		{4, -1, 0, false},
		{1 << 32, 0, 0, false},
		{1 << 62, 1, 0, false},
		{least, 1, 0, false},
		{greatest, 1, 0, false},
	} {
		if got, ok := plan.Lane(p, c.i, c.key); got != c.want || ok != c.ok {
			t.Errorf("Lane(%d, %d): %d, %v", c.i, c.key, got, ok)
		}
	}
}

// P19.1: resolutions have lanes by their numbers, not by what they are.
func TestLaneOfLikeResolutions(t *testing.T) {
	p := ordinary()
	p.Res, p.Shards = []int{60, 10, 60}, 2
	for i := range p.Res {
		for key := -4; key < 4; key++ {
			want, _ := lane(p, i, key)
			if got, ok := plan.Lane(p, i, key); got != want || !ok {
				t.Errorf("Lane(%d, %d): %d, %v", i, key, got, ok)
			}
		}
	}
}

// P19.1: all calls at all edges, of clusters of each size.
func TestAllCallsOfEachSize(t *testing.T) {
	for _, p := range sizes() {
		expectAll(t, p, edges())
	}
	for _, p := range starts() {
		expectAll(t, p, edges())
	}
}

// P19.1: of a plan that isn't good all calls answer 0, false and none, whichever number isn't, and how far off it is.
func TestAllCallsOfPlansThatAreNotGood(t *testing.T) {
	var bad []api.Plan
	for _, p := range starts() {
		for _, f := range fields {
			for _, n := range append(edges(), f.good[len(f.good)-1]+1) {
				q := p
				*f.at(&q) = n
				if !slices.Contains(f.good, n) {
					bad = append(bad, q)
				}
			}
		}
		for _, res := range [][]int{nil, {}, {0}, {-1}, {10, 0}, {0, 10}, {10, 60, least}, {10, -1, 60}, {1, 2, 3, 4}, {0, 0, 0, 0, 0}} {
			q := p
			q.Res = res
			bad = append(bad, q)
		}
	}
	for _, p := range bad {
		expectNothing(t, p)
		expectAll(t, p, few())
	}
}

// expectNothing tells whether the calls of a plan that isn't good answer nothing, also where a good one has something.
func expectNothing(t *testing.T, p api.Plan) {
	t.Helper()
	if plan.Check(p) != api.ErrPlan || plan.Lanes(p) != 0 || plan.Nodes(p) != 0 {
		t.Fatalf("of %v: %v, %d, %d", p, plan.Check(p), plan.Lanes(p), plan.Nodes(p))
	}
	for n := range 14 {
		if role, i, ok := plan.Role(p, n); role != 0 || i != 0 || ok {
			t.Fatalf("Role(%v, %d): %d, %d, %v", p, n, role, i, ok)
		}
		if l := plan.Of(p, n); len(l) != 0 {
			t.Fatalf("Of(%v, %d): %v", p, n, l)
		}
		for i := range 14 {
			if node, ok := plan.Node(p, n, i); node != 0 || ok {
				t.Fatalf("Node(%v, %d, %d): %d, %v", p, n, i, node, ok)
			}
			if l, ok := plan.Lane(p, n, i); l != 0 || ok {
				t.Fatalf("Lane(%v, %d, %d): %d, %v", p, n, i, l, ok)
			}
		}
	}
}

// P19.2: each node has just one role, and Node of Role is the node.
func TestEachNodeHasOneRole(t *testing.T) {
	for _, p := range append(sizes(), starts()...) {
		for node := range plan.Nodes(p) {
			role, i, ok := plan.Role(p, node)
			if back, found := plan.Node(p, role, i); !ok || !found || back != node {
				t.Fatalf("%v: %d is %d of role %d, and that is %d", p, node, i, role, back)
			}
			in := 0
			for r := -1; r < 14; r++ {
				for _, n := range plan.Of(p, r) {
					if n == node {
						in++
					}
				}
			}
			if in != 1 {
				t.Fatalf("%v: %d is in %d roles", p, node, in)
			}
		}
		if _, _, ok := plan.Role(p, plan.Nodes(p)); ok {
			t.Fatalf("%v: a node behind the last", p)
		}
	}
}

// P19.2: Role of Node is the role and which one, Of is all of a role's, rising, and the roles' nodes are all nodes.
func TestRoleOfNode(t *testing.T) {
	for _, p := range append(sizes(), starts()...) {
		all := 0
		for role := isSource; role <= isSink; role++ {
			var nodes []int
			for i := 0; ; i++ {
				node, ok := plan.Node(p, role, i)
				if !ok {
					break
				}
				nodes = append(nodes, node)
				if r, k, ok := plan.Role(p, node); r != role || k != i || !ok {
					t.Fatalf("%v: Node(%d, %d) is %d, and that is %d, %d", p, role, i, node, r, k)
				}
			}
			if got := plan.Of(p, role); !slices.Equal(got, nodes) || !slices.IsSorted(got) {
				t.Fatalf("%v: Of(%d): %v, not %v", p, role, got, nodes)
			}
			all += len(nodes)
		}
		if all != plan.Nodes(p) {
			t.Fatalf("%v: %d nodes, not %d", p, all, plan.Nodes(p))
		}
	}
}

// P19.1: the lanes are those of layer 3's cells, each below Lanes, and each one is a resolution's and a shard's.
func TestLanesAreThoseOfCells(t *testing.T) {
	for _, p := range sizes() {
		met := map[int]int{}
		for key := -30; key <= 30; key++ {
			ids := place.Ids(api.Op{Seq: 1, Kind: api.OpSample, Time: 77, Key: key}, p.Res, p.Shards)
			for i, id := range ids {
				l, ok := plan.Lane(p, i, key)
				if l != id.Lane || !ok || l < 0 || l >= plan.Lanes(p) {
					t.Fatalf("%v: Lane(%d, %d): %d, %v", p, i, key, l, ok)
				}
				met[l]++
			}
		}
		if len(met) != plan.Lanes(p) {
			t.Fatalf("%v: %d lanes, not %d", p, len(met), plan.Lanes(p))
		}
	}
}
