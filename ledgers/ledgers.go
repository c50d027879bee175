// Package ledgers writes chains with their seals as bytes, and looks whether such bytes hold.
package ledgers

import (
	"strings"

	"moot/api"
	"moot/chains"
	"moot/claims"
	"moot/set"
)

// A Seal tells in which round a block was decided, and by whose Commits.
type Seal struct {
	Round int
	By    set.Set
}

// perBlock is how many bytes a block takes: its entry, and a byte each for the round and the nodes of its seal.
const perBlock = api.Entry + 2

// Write is the bytes of a chain whose blocks have these seals, one each.
func Write(chain string, seals ...Seal) string {
	text := []byte{byte(len(seals))}
	for height, entry := range chains.Entries(chain) {
		seal := seals[height-1]
		text = append(text, entry...)
		text = append(text, byte(seal.Round), byte(seal.By))
	}
	return string(text)
}

// Follow tells the chain that is written, if each of its blocks may be, with so many members at first, and has the seals that it must have. Which claims are believed is told by a function.
func Follow(first int, text string, believes func(api.Msg) bool) (string, api.Errno) {
	chain, seals, e := read(text)
	if e != api.OK {
		return "", e
	}
	for at, seal := range seals {
		if e := lookAtLast(first, chain[:(at+1)*api.Entry], seal, believes); e != api.OK {
			return "", e
		}
	}
	return chain, api.OK
}

// read takes bytes apart, whatever the entries are. The chain is new memory, as it is to be handed out.
func read(text string) (string, []Seal, api.Errno) {
	if text == "" || text[0] > api.MaxHeight || len(text) != 1+int(text[0])*perBlock {
		return "", nil, api.ErrForm
	}
	var chain strings.Builder
	var seals []Seal
	for rest := text[1:]; rest != ""; rest = rest[perBlock:] {
		round, by := int(rest[api.Entry]), int(rest[api.Entry+1])
		if round > api.MaxRound || !set.IsSet(by) {
			return "", nil, api.ErrForm
		}
		chain.WriteString(rest[:api.Entry])
		seals = append(seals, Seal{round, set.Set(by)})
	}
	return chain.String(), seals, api.OK
}

// lookAtLast looks at the last block of a chain; those ahead of it may be.
func lookAtLast(first int, chain string, seal Seal, believes func(api.Msg) bool) api.Errno {
	before := chain[:len(chain)-api.Entry]
	if !chains.Extends(first, before, chain) {
		return api.ErrChain
	}
	members, _ := chains.Members(first, before)
	if seal.By.Among(members) != seal.By || seal.By.Size() < chains.Quorum(members.Size()) {
		return api.ErrSeals
	}
	commit := api.Msg{Kind: api.Commit, Height: chains.Blocks(chain), Round: seal.Round, Chain: chain, Prepared: api.NoRound}
	if !claims.AllSent(seal.By, commit, believes) {
		return api.ErrSeals
	}
	return api.OK
}
