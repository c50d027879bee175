package set

import (
	"math"
	"slices"
	"testing"
)

func TestNodesRise(t *testing.T) {
	for s := range All + 1 {
		var want []int
		for node := range 7 {
			if int(s)/pow2(node)%2 == 1 {
				want = append(want, node)
			}
		}
		if got := slices.Collect(s.Nodes()); !slices.Equal(got, want) {
			t.Errorf("nodes of %d: %v, want %v", s, got, want)
		}
		if s.Size() != len(want) {
			t.Errorf("size of %d: %d, want %d", s, s.Size(), len(want))
		}
	}
}

func pow2(n int) int {
	return int(math.Pow(2, float64(n)))
}

func TestNodesStopWhenTold(t *testing.T) {
	var seen []int
	for node := range All.Nodes() {
		if node == 3 {
			break
		}
		seen = append(seen, node)
	}
	if !slices.Equal(seen, []int{0, 1, 2}) {
		t.Errorf("seen %v", seen)
	}
}

func TestFirst(t *testing.T) {
	for count, want := range []Set{0, 1, 3, 7, 15, 31, 63, 127} {
		if got := First(count); got != want {
			t.Errorf("First(%d): %d, want %d", count, got, want)
		}
	}
}

func TestWithAndWithout(t *testing.T) {
	for s := range All + 1 {
		for node := range 7 {
			with, without := s.With(node), s.Without(node)
			if !with.Has(node) || without.Has(node) || with != without+Set(pow2(node)) {
				t.Errorf("%d and node %d: with %d, without %d", s, node, with, without)
			}
			if with != s && without != s {
				t.Errorf("%d and node %d: more than the node has changed", s, node)
			}
		}
	}
}

func TestWhatIsNoNodeIsInNoSet(t *testing.T) {
	for _, node := range []int{math.MinInt, -1, 7, 8, 64, math.MaxInt} {
		if IsNode(node) || All.Has(node) || Set(-1).Has(node) {
			t.Errorf("%d is taken for a node", node)
		}
	}
	for node := range 7 {
		if !IsNode(node) || !All.Has(node) {
			t.Errorf("%d is not taken for a node", node)
		}
	}
}

func TestIsSet(t *testing.T) {
	for n, want := range map[int]bool{math.MinInt: false, -1: false, 0: true, 1: true, 127: true, 128: false, math.MaxInt: false} {
		if IsSet(n) != want {
			t.Errorf("IsSet(%d): %v", n, !want)
		}
	}
}

func TestAmong(t *testing.T) {
	for _, c := range [][3]Set{{0, 0, 0}, {127, 5, 5}, {6, 3, 2}, {8, 7, 0}} {
		if got := c[0].Among(c[1]); got != c[2] {
			t.Errorf("%b among %b: %b", c[0], c[1], got)
		}
	}
}
