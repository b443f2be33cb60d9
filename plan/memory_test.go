package plan_test

import (
	"slices"
	"testing"

	"estuary/api"
	"estuary/plan"
)

// scribble writes over a list, spare room included.
func scribble(list []int) {
	for i := range list[:cap(list)] {
		list[:cap(list)][i] = -7777
	}
}

// callAll makes each call once of each of few arguments.
func callAll(p api.Plan) {
	plan.Check(p)
	plan.Lanes(p)
	plan.Nodes(p)
	for _, n := range few() {
		plan.Role(p, n)
		plan.Of(p, n)
		for _, i := range few() {
			plan.Node(p, n, i)
			plan.Lane(p, n, i)
		}
	}
}

// P19.1, rule 5: a plan that is handed in isn't changed, nor is the spare room of its resolutions.
func TestPlanIsNotChanged(t *testing.T) {
	for _, room := range [][]int{{60, 10, 5, 4, 3}, {60, 0, 5, -4, 3}, {-1, 60, 0, 7}, {1, 2, 3, 4, 5, 6}} {
		for n := range len(room) + 1 {
			kept := slices.Clone(room)
			p := ordinary()
			p.Res = room[:n]
			callAll(p)
			if !slices.Equal(room, kept) {
				t.Fatalf("%v became %v", kept, room)
			}
		}
	}
}

// P19.1, rule 5: a plan that is handed in isn't kept: what is written into it afterwards is told of that plan alone.
func TestPlanIsNotKept(t *testing.T) {
	a, b := ordinary(), ordinary()
	expectAll(t, a, few())
	a.Res[0], a.Res[1] = 0, -5
	expectNothing(t, a)
	expectAll(t, b, few())
	a.Res[0], a.Res[1] = 7, 8
	expectAll(t, a, few())
	a.Res = append(a.Res, 9, 10)
	expectNothing(t, a)
	a.Res = a.Res[:3]
	expectAll(t, a, few())
	expectAll(t, b, few())
}

// P19.1, rule 5: Of's answers are new memory: what is written into one is seen in no other one.
func TestAnswersAreNewMemory(t *testing.T) {
	for _, p := range append(sizes(), starts()...) {
		for role := isSource; role <= isSink; role++ {
			want := nodesOf(cast(p), role)
			first, second := plan.Of(p, role), plan.Of(p, role)
			scribble(first)
			if !slices.Equal(second, want) {
				t.Fatalf("Of(%v, %d) shares memory: %v", p, role, second)
			}
			if third := plan.Of(p, role); !slices.Equal(third, want) {
				t.Fatalf("Of(%v, %d) behind a scribble: %v", p, role, third)
			}
		}
	}
}

// P19.1, rule 5: the lists of all roles share no memory, spare room included, nor do they with the plan.
func TestListsOfRolesShareNothing(t *testing.T) {
	for _, p := range append(sizes(), starts()...) {
		res := slices.Clone(p.Res)
		var lists [5][]int
		for role := range lists {
			lists[role] = plan.Of(p, role)
		}
		for role := range lists {
			for other := range lists {
				if other != role {
					lists[other] = plan.Of(p, other)
				}
			}
			scribble(lists[role])
			for other := range lists {
				if other != role && !slices.Equal(lists[other], nodesOf(cast(p), other)) {
					t.Fatalf("%v: the lists of roles %d and %d share memory", p, role, other)
				}
			}
		}
		if !slices.Equal(p.Res, res) {
			t.Fatalf("%v: the resolutions are written over", p)
		}
	}
}

// P19.1, rule 8: what a call answers depends on its arguments alone, in whatever order plans come, good ones and others.
func TestCallsKeepNothing(t *testing.T) {
	plans := append(sizes(), starts()...)
	for i := range plans {
		bad := plans[i]
		*fields[i%len(fields)].at(&bad) = 0
		plans = append(plans, bad)
	}
	at := uint64(1)
	for range 3000 {
		at = at*6364136223846793005 + 1442695040888963407
		p := plans[int(at>>33)%len(plans)]
		expectCounts(t, p)
		expectNodes(t, p, []int{-1, 0, 1, 2, 3, 4, 5})
		expectLanes(t, p, []int{-1, 0, 1, 2, 3, 4})
	}
}
