package wire

import "moot/api"

// Encode writes a message (P4).
func Encode(m api.Msg) (string, api.Errno) {
	if !MayBe(m) {
		return "", api.ErrForm
	}
	text := []byte{byte(m.Kind), byte(m.From), byte(m.Height), byte(m.Round)}
	switch m.Kind {
	case api.Propose:
		text = append(text, m.Chain...)
		text = append(text, byte(len(m.Moves)))
		for _, move := range m.Moves {
			text = append(text, byte(move.Node))
			text = appendMove(text, move)
		}
	case api.Prepare, api.Commit:
		text = append(text, m.Chain...)
	case api.Change:
		text = appendMove(text, MoveOf(m))
	case api.Final:
		text = append(text, m.Chain...)
		text = append(text, byte(m.By))
	}
	return string(text), api.OK
}

// appendMove writes a Move but for its node: in a Change that is the sender.
func appendMove(text []byte, move api.Move) []byte {
	text = append(text, byte(move.Prepared+1))
	if move.Prepared == api.NoRound {
		return text
	}
	text = append(text, move.Chain...)
	return append(text, byte(move.By))
}
