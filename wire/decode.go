package wire

import (
	"strings"

	"moot/api"
)

// Decode reads a message (P4).
func Decode(s string) (api.Msg, api.Errno) {
	r := reader{rest: s}
	m := r.message()
	if r.short || r.rest != "" || !MayBe(m) {
		return api.Msg{}, api.ErrForm
	}
	return m, api.OK
}

// A reader takes bytes from the front of a text, and remembers whether there were too few.
type reader struct {
	rest  string
	short bool
}

// text takes so many bytes. They are copied, as an answer shares no memory with what was handed in.
func (r *reader) text(length int) string {
	if length > len(r.rest) {
		r.rest, r.short = "", true
		return ""
	}
	taken := strings.Clone(r.rest[:length])
	r.rest = r.rest[length:]
	return taken
}

func (r *reader) number() int {
	if r.rest == "" {
		r.short = true
		return 0
	}
	n := int(r.rest[0])
	r.rest = r.rest[1:]
	return n
}

// message reads by the kind's layout alone; whether the message may be is asked of the whole.
func (r *reader) message() api.Msg {
	m := api.Msg{Prepared: api.NoRound}
	m.Kind = api.Kind(r.number())
	m.From = r.number()
	m.Height = r.number()
	m.Round = r.number()
	length := m.Height * api.Entry
	switch m.Kind {
	case api.Propose:
		m.Chain = r.text(length)
		m.Moves = r.moves(length)
	case api.Prepare, api.Commit:
		m.Chain = r.text(length)
	case api.Change:
		move := r.move(m.From, length)
		m.Prepared, m.Chain, m.By = move.Prepared, move.Chain, move.By
	case api.Final:
		m.Chain = r.text(length)
		m.By = r.number()
	}
	return m
}

func (r *reader) moves(length int) []api.Move {
	count := r.number()
	if count == 0 {
		return nil
	}
	moves := make([]api.Move, count)
	for i := range moves {
		node := r.number()
		moves[i] = r.move(node, length)
	}
	return moves
}

func (r *reader) move(node, length int) api.Move {
	move := api.Move{Node: node, Prepared: r.number() - 1}
	if move.Prepared == api.NoRound {
		return move
	}
	move.Chain = r.text(length)
	move.By = r.number()
	return move
}
