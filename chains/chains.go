// Package chains reads chains, and tells who decides about the block behind one.
package chains

import (
	"iter"
	"strings"

	"moot/api"
	"moot/set"
)

// The signs of a block: what its maker votes.
const (
	noVote = '.'
	toBe   = '+'
	notBe  = '-'
)

// signs has the signs by the numbers that a step has for them.
const signs = string(noVote) + string(toBe) + string(notBe)

// A Vote is what a node says in the blocks that it makes: how, a number less than Ways, and about which node. The zero Vote is none.
type Vote struct {
	How, About int
}

// Ways is how many ways to vote there are.
const Ways = len(signs)

// enough is how many makers must vote alike, so that no single one moves the members.
const enough = 2

// A block is one entry of a chain, read.
type block struct {
	maker int
	sign  byte
	about int
}

// Members tells who may decide about the block behind a chain, if the first so many nodes were members at first.
func Members(nodes int, chain string) (set.Set, api.Errno) {
	if nodes < api.MinNodes || nodes > api.MaxNodes {
		return 0, api.ErrConfig
	}
	if len(chain)%api.Entry != 0 || Blocks(chain) > api.MaxHeight {
		return 0, api.ErrChain
	}
	members := set.First(nodes)
	var epoch []block
	for height, entry := range Entries(chain) {
		b, ok := read(entry)
		if !ok || !members.Has(b.maker) {
			return 0, api.ErrChain
		}
		epoch = append(epoch, b)
		if height%api.Epoch == 0 {
			members = count(members, epoch)
			epoch = nil
		}
	}
	return members, api.OK
}

// Leader tells who proposes the block behind a chain in a round.
func Leader(nodes int, chain string, round int) (int, api.Errno) {
	members, e := Members(nodes, chain)
	if e != api.OK {
		return 0, e
	}
	if round < 0 || round > api.MaxRound {
		return 0, api.ErrStep
	}
	return LeaderOf(members, Blocks(chain)+1, round), api.OK
}

// LeaderOf tells which of the members of a height proposes in a round of it.
func LeaderOf(members set.Set, height, round int) int {
	return nodeAt(members, (height+round)%members.Size())
}

// Quorum is how many of so many members decide: any two that many have a good one in both, if no more than Faults are bad.
func Quorum(members int) int {
	return (2*members + 2) / 3
}

// Faults is how many of so many members may be bad.
func Faults(members int) int {
	return (members - 1) / 3
}

// Extends tells whether a chain is another one and one block more, that may be.
func Extends(nodes int, chain, longer string) bool {
	if len(longer) != len(chain)+api.Entry || !strings.HasPrefix(longer, chain) {
		return false
	}
	_, e := Members(nodes, longer)
	return e == api.OK
}

// Block is the entry of a block with this maker and its vote.
func Block(maker int, vote Vote) string {
	if vote.How == 0 {
		vote.About = 0
	}
	return string([]byte{letter(maker), signs[vote.How], letter(vote.About)})
}

// Blocks tells how many blocks a chain has.
func Blocks(chain string) int {
	return len(chain) / api.Entry
}

// nodeAt is the node at a place, from 0 on, of a set by rising numbers.
func nodeAt(nodes set.Set, place int) int {
	for node := range nodes.Nodes() {
		if place == 0 {
			return node
		}
		place--
	}
	return 0
}

// Entries goes through the blocks of a chain, each with its height.
func Entries(chain string) iter.Seq2[int, string] {
	return func(yield func(int, string) bool) {
		for at := range Blocks(chain) {
			if !yield(at+1, chain[at*api.Entry:(at+1)*api.Entry]) {
				return
			}
		}
	}
}

// read takes an entry apart; it is not ok if no block is written so.
func read(entry string) (block, bool) {
	b := block{maker: digit(entry[0]), sign: entry[1], about: digit(entry[2])}
	if !set.IsNode(b.maker) {
		return block{}, false
	}
	switch b.sign {
	case noVote:
		return b, b.about == 0
	case toBe, notBe:
		return b, set.IsNode(b.about)
	}
	return block{}, false
}

// digit is the number that a digit stands for; other bytes give what is no node.
func digit(c byte) int {
	return int(c) - '0'
}

// letter is the digit that stands for a node.
func letter(node int) byte {
	return byte(node) + '0'
}

// count lets the votes of an epoch's blocks change the members.
func count(members set.Set, epoch []block) set.Set {
	for node := range set.All.Nodes() {
		switch {
		case voters(epoch, toBe, node).Size() >= enough:
			members = members.With(node)
		case voters(epoch, notBe, node).Size() >= enough && members.Has(node) && members.Size() > api.MinNodes:
			members = members.Without(node)
		}
	}
	return members
}

// voters is the set of the makers who vote so about a node: a maker counts once, however many blocks it made.
func voters(epoch []block, sign byte, about int) set.Set {
	var makers set.Set
	for _, b := range epoch {
		if b.sign == sign && b.about == about {
			makers = makers.With(b.maker)
		}
	}
	return makers
}
