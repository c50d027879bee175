package chains

import (
	"fmt"
	"slices"
	"strings"
	"testing"

	"moot/api"
	"moot/set"
)

// expected is the rule of the members behind one epoch, said another way: who gains and who loses is told by the pairs of blocks that vote alike.
func expected(nodes int, chain string) []int {
	var members []int
	for node := range nodes {
		members = append(members, node)
	}
	for node := range 7 {
		at := slices.Index(members, node)
		if pairVotes(chain, fmt.Sprintf("+%d", node)) {
			if at < 0 {
				members = append(members, node)
			}
		} else if pairVotes(chain, fmt.Sprintf("-%d", node)) && at >= 0 && len(members) > 4 {
			members = slices.Delete(members, at, at+1)
		}
	}
	slices.Sort(members)
	return members
}

func pairVotes(chain, vote string) bool {
	for i := 0; i < 9; i += 3 {
		for j := i + 3; j < 9; j += 3 {
			if chain[i+1:i+3] == vote && chain[j+1:j+3] == vote && chain[i] != chain[j] {
				return true
			}
		}
	}
	return false
}

func TestMembersBehindEveryEpoch(t *testing.T) {
	var blocks []string
	for _, maker := range "123" {
		blocks = append(blocks, string(maker)+".0")
		for node := range 7 {
			blocks = append(blocks, fmt.Sprintf("%c+%d", maker, node), fmt.Sprintf("%c-%d", maker, node))
		}
	}
	for nodes := 4; nodes <= 7; nodes++ {
		for _, a := range blocks {
			for _, b := range blocks {
				for _, c := range blocks {
					chain := a + b + c
					members, e := Members(nodes, chain)
					if want := expected(nodes, chain); e != api.OK || !slices.Equal(slices.Collect(members.Nodes()), want) {
						t.Fatalf("P3: Members(%d, %q): %b, %d, want %v", nodes, chain, members, e, want)
					}
				}
			}
		}
	}
}

func TestMembersStayWithinAnEpoch(t *testing.T) {
	for _, chain := range []string{"", "1+5", "1+52+5", "1.02+5"} {
		if members, e := Members(4, chain); e != api.OK || members != set.First(4) {
			t.Errorf("P3: Members(4, %q): %b, %d", chain, members, e)
		}
	}
}

// Votes of one epoch are not counted in the next.
func TestVotesAreForgottenBehindTheirEpoch(t *testing.T) {
	for _, c := range []struct {
		chain string
		want  []int
	}{
		{"1.02.03+5" + "1+52.03.0", []int{0, 1, 2, 3}},
		{"1.02.03+5" + "1+52.03+5", []int{0, 1, 2, 3, 5}},
		{"1+52+53.0" + "1-52-53.0", []int{0, 1, 2, 3}},
		{"1+52+53.0" + "1-02-03.0", []int{1, 2, 3, 5}},
		{"1+52+53+5" + "5+61+62.0", []int{0, 1, 2, 3, 5, 6}},
	} {
		members, e := Members(4, c.chain)
		if e != api.OK || !slices.Equal(slices.Collect(members.Nodes()), c.want) {
			t.Errorf("P3: Members(4, %q): %b, %d, want %v", c.chain, members, e, c.want)
		}
	}
}

// An epoch of the promised length can't vote both ways enough; the rule still names which comes first.
func TestOfBothVotesTheFirstCounts(t *testing.T) {
	both := []block{{1, '+', 2}, {2, '+', 2}, {3, '-', 2}, {0, '-', 2}}
	if got := count(set.First(5), both); got != set.First(5) {
		t.Errorf("P3: %b", got)
	}
	two := []block{{1, '-', 0}, {2, '-', 0}, {1, '-', 1}, {2, '-', 1}}
	if got := count(set.First(5), two); got != set.First(5).Without(0) {
		t.Errorf("P3: below MinNodes: %b", got)
	}
}

func TestEachByteOfABlock(t *testing.T) {
	for at, allowed := range []string{"0123", "+-", "0123456"} {
		for c := range 256 {
			text := []byte("1+2")
			text[at] = byte(c)
			want := api.ErrChain
			if strings.IndexByte(allowed, byte(c)) >= 0 {
				want = api.OK
			}
			if _, e := Members(4, string(text)); e != want {
				t.Errorf("P3: Members(4, %q): %d, want %d", text, e, want)
			}
		}
	}
	for c := range 256 {
		want := api.ErrChain
		if c == '0' {
			want = api.OK
		}
		if _, e := Members(4, "1."+string([]byte{byte(c)})); e != want {
			t.Errorf("P3: no vote and byte %d: %d, want %d", c, e, want)
		}
	}
}

func TestMakersMustBeMembers(t *testing.T) {
	for nodes := 4; nodes <= 7; nodes++ {
		for maker := range 10 {
			want := api.ErrChain
			if maker < nodes {
				want = api.OK
			}
			for blocks := range 6 {
				chain := strings.Repeat("0.0", blocks) + fmt.Sprint(maker) + ".0"
				if _, e := Members(nodes, chain); e != want {
					t.Errorf("P3: Members(%d, %q): %d, want %d", nodes, chain, e, want)
				}
			}
		}
	}
	for _, chain := range []string{"1-42-43.04.0", "4-42-40.01.04.0", "1-42-43.00.04.0"} {
		if members, e := Members(5, chain); e != api.ErrChain || members != 0 {
			t.Errorf("P3: a maker that is none any more, %q: %b, %d", chain, members, e)
		}
	}
}

func TestLengths(t *testing.T) {
	long := strings.Repeat("0.0", 10)
	for length := range len(long) {
		want := api.ErrChain
		if length%3 == 0 && length <= 18 {
			want = api.OK
		}
		if _, e := Members(4, long[:length]); e != want {
			t.Errorf("P3: length %d: %d, want %d", length, e, want)
		}
	}
}

func TestLeadersGoRound(t *testing.T) {
	for _, c := range []struct {
		nodes   int
		chain   string
		members []int
	}{
		{4, "", []int{0, 1, 2, 3}},
		{7, "6.0", []int{0, 1, 2, 3, 4, 5, 6}},
		{4, "1+62+63.0", []int{0, 1, 2, 3, 6}},
		{6, "1-02-03.0", []int{1, 2, 3, 4, 5}},
		{6, "1-02-03.01-22-23.0", []int{1, 3, 4, 5}},
	} {
		height := len(c.chain)/3 + 1
		for round := range 10 {
			want := c.members[(height+round)%len(c.members)]
			if got, e := Leader(c.nodes, c.chain, round); e != api.OK || got != want {
				t.Errorf("P3: Leader(%d, %q, %d): %d, %d, want %d", c.nodes, c.chain, round, got, e, want)
			}
		}
	}
}

func TestQuorumAndFaults(t *testing.T) {
	for _, c := range []struct{ members, quorum, faults int }{{4, 3, 1}, {5, 4, 1}, {6, 4, 1}, {7, 5, 2}} {
		if q, f := Quorum(c.members), Faults(c.members); q != c.quorum || f != c.faults {
			t.Errorf("P6: of %d members: %d, %d, want %d, %d", c.members, q, f, c.quorum, c.faults)
		}
	}
}

func TestExtends(t *testing.T) {
	six := strings.Repeat("1.0", 6)
	for _, c := range []struct {
		chain, longer string
		want          bool
	}{
		{"", "1.0", true},
		{"", "3-6", true},
		{"", "4.0", false}, // no member
		{"", "1.1", false},
		{"", "1x0", false},
		{"", "", false},
		{"", "1.01.0", false},
		{"", "1.", false},
		{"1.0", "1.02+5", true},
		{"1.0", "2.02+5", false},
		{"1.0", "2+5", false},
		{"1.0", "1.0", false},
		{"1+52+53.0", "1+52+53.05.0", true},
		{"1+52+53.0", "1+52+53.04.0", false},
		{six[:15], six, true},
		{six, six + "1.0", false},
	} {
		if got := Extends(4, c.chain, c.longer); got != c.want {
			t.Errorf("P6: Extends(%q, %q): %v", c.chain, c.longer, got)
		}
	}
}

func TestBlock(t *testing.T) {
	for _, c := range []struct {
		maker int
		vote  Vote
		want  string
	}{{0, Vote{}, "0.0"}, {3, Vote{How: 0, About: 5}, "3.0"}, {6, Vote{How: 1, About: 5}, "6+5"}, {2, Vote{How: 2, About: 0}, "2-0"}} {
		if got := Block(c.maker, c.vote); got != c.want {
			t.Errorf("P6: Block(%d, %+v): %q, want %q", c.maker, c.vote, got, c.want)
		}
	}
}
