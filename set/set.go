// Package set holds sets of nodes as numbers: bit i is 1 for node i.
package set

import (
	"iter"
	"math/bits"

	"moot/api"
)

// Set is a set of nodes.
type Set int

// All is the set of all nodes of a world.
const All Set = 1<<api.MaxNodes - 1

// IsNode tells whether a number is that of a node.
func IsNode(n int) bool {
	return 0 <= n && n < api.MaxNodes
}

// IsSet tells whether a number is a set of nodes.
func IsSet(n int) bool {
	return 0 <= n && n <= int(All)
}

// First is the set of the first so many nodes, of 0 to MaxNodes.
func First(count int) Set {
	return 1<<count - 1
}

// Has tells whether a node is in the set. What is no node is in none.
func (s Set) Has(node int) bool {
	return IsNode(node) && s>>node&1 == 1
}

// With is the set and this node.
func (s Set) With(node int) Set {
	return s | 1<<node
}

// Without is the set less this node.
func (s Set) Without(node int) Set {
	return s &^ (1 << node)
}

// Among is the set of those nodes that are in the other one, too.
func (s Set) Among(other Set) Set {
	return s & other
}

// Size tells how many nodes are in the set.
func (s Set) Size() int {
	return bits.OnesCount(uint(s & All))
}

// Nodes goes through the set by rising numbers.
func (s Set) Nodes() iter.Seq[int] {
	return func(yield func(int) bool) {
		for node := range api.MaxNodes {
			if s.Has(node) && !yield(node) {
				return
			}
		}
	}
}
