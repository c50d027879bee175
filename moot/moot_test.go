package moot

import (
	"math"
	"reflect"
	"slices"
	"strings"
	"testing"

	"moot/api"
)

func TestExamples(t *testing.T) {
	for _, c := range []struct {
		chain string
		want  []int
	}{
		{"", []int{0, 1, 2, 3}},
		{"1.0", []int{0, 1, 2, 3}},
		{"1+52+53.0", []int{0, 1, 2, 3, 5}},
	} {
		if got, e := Members(4, c.chain); e != api.OK || !slices.Equal(got, c.want) {
			t.Errorf("P3: Members(4, %q): %v, %d, want %v", c.chain, got, e, c.want)
		}
	}
	for round, want := range []int{1, 2, 3, 0} {
		if got, e := Leader(4, "", round); e != api.OK || got != want {
			t.Errorf("P3: Leader(4, none, %d): %d, %d, want %d", round, got, e, want)
		}
	}
	ask := api.Msg{Kind: api.Ask, From: 2, Height: 3, Prepared: api.NoRound}
	if got, e := Encode(ask); e != api.OK || got != "\x06\x02\x03\x00" {
		t.Errorf("P4: Encode: %q, %d", got, e)
	}
	if got, e := Decode("\x06\x02\x03\x00"); e != api.OK || !reflect.DeepEqual(got, ask) {
		t.Errorf("P4: Decode: %#v, %d", got, e)
	}
}

func TestMembersAlsoBehindTheLastBlock(t *testing.T) {
	last := strings.Repeat("1.0", 3) + "1+62+60.0"
	if got, e := Members(4, last); e != api.OK || !slices.Equal(got, []int{0, 1, 2, 3, 6}) {
		t.Errorf("P3: Members: %v, %d", got, e)
	}
	if got, e := Leader(4, last, 2); e != api.OK || got != 6 {
		t.Errorf("P3: Leader: %d, %d", got, e)
	}
	if got, e := Members(4, last+"1.0"); e != api.ErrChain || got != nil {
		t.Errorf("P3: Members of a chain too long: %v, %d", got, e)
	}
}

func TestTheFirstErrorIsTheAnswer(t *testing.T) {
	numbers := []int{math.MinInt, math.MinInt32, -1, 0, 3, 4, 5, 7, 8, 9, 10, 64, math.MaxInt32, math.MaxInt}
	chains := []string{"", "1.0", "x", "1.", "9.0", "1+72+73.0", strings.Repeat("1.0", 7), strings.Repeat("1.0", 1<<16), "\xff\xfe\xfd", "１.0"}
	for _, nodes := range numbers {
		for k, chain := range chains {
			want := api.OK
			if nodes < 4 || nodes > 7 {
				want = api.ErrConfig
			} else if k > 1 {
				want = api.ErrChain
			}
			if got, e := Members(nodes, chain); e != want || e != api.OK && got != nil {
				t.Errorf("P1, P3: Members(%d, %.20q): %v, %d, want %d", nodes, chain, got, e, want)
			}
			leaderErrors(t, nodes, chain, numbers)
		}
	}
}

func leaderErrors(t *testing.T, nodes int, chain string, rounds []int) {
	_, e := Members(nodes, chain)
	for _, round := range rounds {
		want := e
		if e == api.OK && (round < 0 || round > 9) {
			want = api.ErrStep
		}
		if got, e := Leader(nodes, chain, round); e != want || e != api.OK && got != 0 {
			t.Errorf("P1, P3: Leader(%d, %.20q, %d): %d, %d, want %d", nodes, chain, round, got, e, want)
		}
	}
}

func TestMembersAreNewMemory(t *testing.T) {
	for range 3 {
		list, _ := Members(5, "1+62+63.0")
		if !slices.Equal(list, []int{0, 1, 2, 3, 4, 6}) {
			t.Fatalf("P2: Members: %v", list)
		}
		overwrite(list, -1)
	}
}

// overwrite fills a list, its spare room too.
func overwrite[T any](list []T, with T) {
	list = list[:cap(list)]
	for i := range list {
		list[i] = with
	}
}

func severalMoves() api.Msg {
	return api.Msg{Kind: api.Propose, From: 2, Height: 1, Round: 1, Chain: "1.0", Prepared: api.NoRound, Moves: []api.Move{
		{Node: 0, Prepared: 0, Chain: "1.0", By: 7}, {Node: 3, Prepared: api.NoRound}, {Node: 4, Prepared: 0, Chain: "3.0", By: 127},
	}}
}

func TestDecodeIsNewMemory(t *testing.T) {
	text, _ := Encode(severalMoves())
	for range 3 {
		m, e := Decode(text)
		if e != api.OK || !reflect.DeepEqual(m, severalMoves()) {
			t.Fatalf("P2: Decode: %#v, %d", m, e)
		}
		overwrite(m.Moves, api.Move{Node: 9, Chain: "?"})
	}
}

func TestEncodeLeavesMovesAlone(t *testing.T) {
	m := severalMoves()
	room := append(slices.Clone(m.Moves), api.Move{Node: 6, Chain: "spare"})
	before := slices.Clone(room)
	m.Moves = room[:3]
	first, _ := Encode(m)
	second, _ := Encode(m)
	if first == "" || first != second || !slices.Equal(room, before) {
		t.Errorf("P2: Encode: %q, %q, Moves %v", first, second, room)
	}
}
