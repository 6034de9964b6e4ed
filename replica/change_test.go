package replica_test

import (
	"fmt"
	"strings"
	"testing"

	"quorum/api"
	"quorum/replica"
)

// noLives is the lives of five replicas of which none has crashed.
const noLives = "0.0.0.0.0"

func TestP9Examples(t *testing.T) {
	play(t, made(t, 1, 3, "012"), []step{
		{"suspect", "0: h 1 0.0.0 0 1; 2: h 1 0.0.0 0 1"},
		{"take v 2 0.0.0 0 1 0 0 -", "0: s 1 0.0.0 0 1 012 - 0 -; 2: s 1 0.0.0 0 1 012 - 0 -"},
		{"where", "0 1 1 0"},
		{"take q 1 1 pa5", others("p 1 0.0.0 0 1 1 1.1.pa5 0", 0, 2)},
		{"take k 0 0.0.0 0 1 1", "-1: y 1 1 ok"},
	})
	play(t, made(t, 2, 3, "012"), []step{
		{"take p 0 0.0.0 0 0 1 1.1.pa5 0", "0: k 2 0.0.0 0 0 1"},
		{"take h 1 0.0.0 0 1", "0: h 2 0.0.0 0 1; 1: h 2 0.0.0 0 1; 1: v 2 0.0.0 0 1 0 0 1.1.pa5"},
		{"where", "0 1 2 0"},
	})
}

// To want: NORMAL is the view in which it was Normal last, however many views are wanted since.
func TestP9WantsLaterViews(t *testing.T) {
	play(t, made(t, 3, 6, "01324"), []step{
		{"take h 5 0.0.0.0.0.0 0 1", ""},
		{"take v 5 0.0.0.0.0.0 0 1 0 0 -", ""},
		{"where", "0 0 1 0"},
		{"take p 0 0.0.0.0.0.0 0 0 1 1.1.pa5 0", "0: k 3 0.0.0.0.0.0 0 0 1"},
		{"take p 0 0.0.0.0.0.0 0 0 2 1.2.pa6 1", "0: k 3 0.0.0.0.0.0 0 0 2"},
		{"take v 4 0.0.0.0.0.0 0 1 0 0 -", others("h 3 0.0.0.0.0.0 0 1", 0, 1, 2, 4) + "; 1: v 3 0.0.0.0.0.0 0 1 0 1 1.1.pa5/1.2.pa6"},
		{"take h 5 0.0.0.0.0.0 0 2", ""},
		{"where", "0 1 2 1"},
		{"take h 4 0.0.0.0.0.0 0 999", others("h 3 0.0.0.0.0.0 0 999", 0, 1, 2, 4) + "; 4: v 3 0.0.0.0.0.0 0 999 0 1 1.1.pa5/1.2.pa6"},
		{"where", "0 999 2 1"},
		{"take s 4 0.0.0.0.0.0 0 999 01324 - 0 1.1.pa5/1.2.pa6", "4: k 3 0.0.0.0.0.0 0 999 2"},
		{"suspect", ""},
		{"where", "0 999 1 1"},
	})
	play(t, made(t, 2, 3, "012"), []step{
		{"take s 1 0.0.0 0 4 012 - 0 -", "1: k 2 0.0.0 0 4 0"},
		{"suspect", others("h 2 0.0.0 0 5", 0, 1)},
		{"suspect", others("h 2 0.0.0 0 6", 0, 1) + "; 0: v 2 0.0.0 0 6 4 0 -"},
		{"take h 1 0.0.0 0 7", others("h 2 0.0.0 0 7", 0, 1) + "; 1: v 2 0.0.0 0 7 4 0 -"},
	})
}

// A later view's v to that view's primary is a vote at once; h is none.
func TestP9LaterViewByVote(t *testing.T) {
	play(t, made(t, 1, 3, "012"), []step{
		{"take v 2 0.0.0 0 4 0 1 1.1.pa5", others("h 1 0.0.0 0 4", 0, 2) + "; " + others("s 1 0.0.0 0 4 012 - 0 1.1.pa5", 0, 2) + "; -1: y 1 1 ok"},
		{"where", "0 4 1 1"},
		{"suspect", others("h 1 0.0.0 0 5", 0, 2) + "; 2: v 1 0.0.0 0 5 4 1 1.1.pa5"},
		{"take h 2 0.0.0 0 7", others("h 1 0.0.0 0 7", 0, 2)},
		{"where", "0 7 2 1"},
		{"take v 0 0.0.0 0 10 0 0 -", others("h 1 0.0.0 0 10", 0, 2) + "; " + others("s 1 0.0.0 0 10 012 - 1 1.1.pa5", 0, 2)},
		{"where", "0 10 1 1"},
	})
}

// Of this view, in status Change.
func TestP9InChange(t *testing.T) {
	play(t, made(t, 2, 4, "012"), []step{
		{"take h 0 0.0.0.0 0 1", others("h 2 0.0.0.0 0 1", 0, 1) + "; 1: v 2 0.0.0.0 0 1 0 0 -"},
		{"take p 1 0.0.0.0 0 1 1 1.1.pa5 1", "1: g 2 0.0.0.0 0 1"},
		{"take p 0 0.0.0.0 0 1 1 1.1.pa5 1", "0: g 2 0.0.0.0 0 1"},
		{"take c 1 0.0.0.0 0 1 0", "1: g 2 0.0.0.0 0 1"},
		{"take c 0 0.0.0.0 0 1 0", "0: g 2 0.0.0.0 0 1"},
		{"take h 0 0.0.0.0 0 1", "1: v 2 0.0.0.0 0 1 0 0 -"},
		{"take h 1 0.0.0.0 0 1", "1: v 2 0.0.0.0 0 1 0 0 -"},
		{"take v 0 0.0.0.0 0 1 0 0 -", ""},
		{"take v 1 0.0.0.0 0 1 0 0 -", ""},
		{"take k 1 0.0.0.0 0 1 0", ""},
		{"take g 1 0.0.0.0 0 1", ""},
		{"take r 1 0.0.0.0 0 1", ""},
		{"take p 3 0.0.0.0 0 1 1 1.1.pa5 1", ""},
		{"take c 3 0.0.0.0 0 1 0", ""},
		{"take h 3 0.0.0.0 0 1", ""},
		{"take g 3 0.0.0.0 0 1", ""},
		{"where", "0 1 2 0"},
		{"log", ""},
	})
	play(t, made(t, 1, 4, "012"), []step{
		{"suspect", others("h 1 0.0.0.0 0 1", 0, 2)},
		{"take h 0 0.0.0.0 0 1", ""},
		{"take p 0 0.0.0.0 0 1 1 1.1.pa5 1", "0: g 1 0.0.0.0 0 1"},
		{"beat", others("h 1 0.0.0.0 0 1", 0, 2)},
		{"beat", others("h 1 0.0.0.0 0 1", 0, 2)},
		{"take v 3 0.0.0.0 0 1 0 0 -", ""},
		{"take v 0 0.0.0.0 0 0 0 0 -", "0: h 1 0.0.0.0 0 1"},
		{"where", "0 1 2 0"},
		{"take v 0 0.0.0.0 0 1 0 0 -", others("s 1 0.0.0.0 0 1 012 - 0 -", 0, 2)},
		{"take v 0 0.0.0.0 0 1 0 0 -", "0: s 1 0.0.0.0 0 1 012 - 0 -"},
		{"take v 2 0.0.0.0 0 1 0 0 1.1.pa5", "2: s 1 0.0.0.0 0 1 012 - 0 -"},
		{"take h 2 0.0.0.0 0 1", "2: s 1 0.0.0.0 0 1 012 - 0 -"},
		{"where", "0 1 1 0"},
		{"log", ""},
	})
}

// toFour is a text of replica 1 to all others of the group 01234.
func toFour(text string) string {
	return others(text, 0, 2, 3, 4)
}

// wanting is replica 1 of the group 01234 which wants view 1, whose primary it is. Its log is these entries, as much of it decided.
func wanting(t *testing.T, decided int, entries ...string) *replica.Replica {
	t.Helper()
	r := made(t, 1, 5, "01234")
	for i, entry := range entries {
		r.Take(fmt.Sprintf("p 0 %s 0 0 %d %s %d", noLives, i+1, entry, decided))
	}
	play(t, r, []step{
		{"suspect", toFour("h 1 " + noLives + " 0 1")},
		{"where", fmt.Sprintf("0 1 2 %d", decided)},
		{"log", strings.Join(entries, "/")},
	})
	return r
}

func state(rest string) string {
	return toFour("s 1 " + noLives + " 0 1 01234 - " + rest)
}

// To count: more than f votes, of which its own is one and none counts twice.
func TestP9CountsMoreThanF(t *testing.T) {
	play(t, wanting(t, 0), []step{
		{"take v 2 " + noLives + " 0 1 0 0 -", ""},
		{"take v 2 " + noLives + " 0 1 0 0 -", ""},
		{"take v 2 " + noLives + " 0 1 0 0 -", ""},
		{"where", "0 1 2 0"},
		{"take v 4 " + noLives + " 0 1 0 0 -", state("0 -")},
		{"where", "0 1 1 0"},
	})
}

// To count: the best is of the greatest NORMAL, then the longest, then the first; among them its own.
func TestP9BestVote(t *testing.T) {
	play(t, wanting(t, 0, "1.1.pa1", "1.2.pa2", "1.3.pa3"), []step{
		{"take v 2 " + noLives + " 0 1 1 0 2.1.pb1", ""},
		{"take v 3 " + noLives + " 0 1 0 0 3.1.pc1/3.2.pc2/3.3.pc3/3.4.pc4", state("0 2.1.pb1")},
		{"log", "2.1.pb1"},
	})
	play(t, wanting(t, 0, "1.1.pa1"), []step{
		{"take v 2 " + noLives + " 0 1 0 0 2.1.pb1/2.2.pb2", ""},
		{"take v 3 " + noLives + " 0 1 0 0 3.1.pc1", state("0 2.1.pb1/2.2.pb2")},
	})
	play(t, wanting(t, 0, "1.1.pa1"), []step{
		{"take v 2 " + noLives + " 0 1 0 0 2.1.pb1", ""},
		{"take v 3 " + noLives + " 0 1 0 0 3.1.pc1", state("0 1.1.pa1")},
	})
	play(t, wanting(t, 0, "1.1.pa1"), []step{
		{"take v 2 " + noLives + " 0 1 7 0 2.1.pb1", ""},
		{"take v 3 " + noLives + " 0 1 7 0 3.1.pc1", state("0 2.1.pb1")},
	})
	play(t, wanting(t, 0, "1.1.pa1"), []step{
		{"take v 2 " + noLives + " 0 1 7 0 2.1.pb1", ""},
		{"take v 3 " + noLives + " 0 1 7 0 3.1.pc1/3.2.pc2", state("0 3.1.pc1/3.2.pc2")},
	})
	play(t, wanting(t, 0, "1.1.pa1"), []step{
		{"take v 2 " + noLives + " 0 1 0 0 -", ""},
		{"take v 3 " + noLives + " 0 1 0 0 -", state("0 1.1.pa1")},
	})
}

// To count: a sender's later vote takes its earlier one's place, be it the better or not.
func TestP9VoteAnew(t *testing.T) {
	play(t, wanting(t, 0), []step{
		{"take v 2 " + noLives + " 0 1 9 2 2.1.pb1/2.2.pb2", ""},
		{"take v 2 " + noLives + " 0 1 5 0 2.3.pb3", ""},
		{"take v 3 " + noLives + " 0 1 5 0 3.1.pc1", state("0 2.3.pb3")},
		{"where", "0 1 1 0"},
	})
}

// To count: the greatest COMMIT of all votes, but no more than the best log; the STATE goes ahead of it.
func TestP9GreatestCommit(t *testing.T) {
	play(t, wanting(t, 0), []step{
		{"take v 2 " + noLives + " 0 1 0 2 1.1.pa1/1.2.ga", ""},
		{"take v 3 " + noLives + " 0 1 1 0 1.1.pa1/1.2.ga/1.3.da", state("0 1.1.pa1/1.2.ga/1.3.da") + "; -1: y 1 1 ok; -1: y 1 2 1"},
		{"where", "0 1 1 2"},
		{"session 1", "2 1"},
	})
	play(t, wanting(t, 0), []step{
		{"take v 2 " + noLives + " 0 1 1 0 2.1.pb1", ""},
		{"take v 3 " + noLives + " 0 1 0 3 1.1.pa1/1.2.pa2/1.3.pa3", state("0 2.1.pb1") + "; -2: y 2 1 ok"},
		{"where", "0 1 1 1"},
	})
	play(t, wanting(t, 1, "1.1.pa1", "1.2.pa2"), []step{
		{"take v 2 " + noLives + " 0 1 0 0 -", ""},
		{"take v 3 " + noLives + " 0 1 0 0 -", state("1 1.1.pa1/1.2.pa2")},
		{"where", "0 1 1 1"},
	})
}

// To take over: the service begins anew; what is beyond the log is no more decided.
func TestP9TakesOver(t *testing.T) {
	play(t, wanting(t, 3, "1.1.pa1", "1.2.pb2", "2.1.pc3"), []step{
		{"where", "0 1 2 3"},
		{"take v 2 " + noLives + " 0 1 1 0 3.1.pa9/3.2.pd4", ""},
		{"take v 3 " + noLives + " 0 1 0 0 -", state("2 3.1.pa9/3.2.pd4")},
		{"where", "0 1 1 2"},
		{"log", "3.1.pa9/3.2.pd4"},
		{"value a", "9"},
		{"value b", ""},
		{"value c", ""},
		{"value d", "4"},
		{"session 1", "0 "},
		{"session 2", "0 "},
		{"session 3", "2 ok"},
		{"take q 3 3 ga", toFour("p 1 " + noLives + " 0 1 3 3.3.ga 2")},
	})
}

// What is told by a vote is the replica's own from then on.
func TestP9LogsAreApart(t *testing.T) {
	r := made(t, 1, 3, "012")
	r.Take("v 2 0.0.0 0 1 0 1 1.1.pa1/1.2.pa2")
	log := r.Log()
	log = append(log[:1], api.Entry{Client: 9})
	play(t, r, []step{
		{"log", "1.1.pa1/1.2.pa2"},
		{"take q 1 3 pa3", others("p 1 0.0.0 0 1 3 1.3.pa3 1", 0, 2)},
		{"log", "1.1.pa1/1.2.pa2/1.3.pa3"},
	})
	if log[1].Client != 9 {
		t.Error("what was handed out is written")
	}
}

// To want: no VOTES of the views before.
func TestP9VotesOfEarlierViews(t *testing.T) {
	head := " 1 " + noLives + " 0 "
	play(t, wanting(t, 0), []step{
		{"take v 2 " + noLives + " 0 1 0 0 -", ""},
		{"take h 0 " + noLives + " 0 6", toFour("h" + head + "6")},
		{"take v 3 " + noLives + " 0 6 0 0 -", ""},
		{"where", "0 6 2 0"},
		{"suspect", toFour("h"+head+"7") + "; 2: v" + head + "7 0 0 -"},
		{"take v 0 " + noLives + " 0 11 0 0 -", toFour("h" + head + "11")},
		{"take v 2 " + noLives + " 0 11 0 0 -", toFour("s" + head + "11 01234 - 0 -")},
	})
}

// P6: a vote is forgotten when its sender's life is over, whoever tells it; its own never is.
func TestP6VotesOfALifeThatIsOver(t *testing.T) {
	play(t, wanting(t, 0), []step{
		{"take v 2 " + noLives + " 0 1 9 0 2.1.pb1", ""},
		{"take v 3 0.0.1.0.0 0 1 0 0 -", ""},
		{"where", "0 1 2 0"},
		{"take v 2 " + noLives + " 0 1 9 0 2.1.pb1", ""},
		{"take v 2 0.0.1.0.0 0 1 0 0 -", toFour("s 1 0.0.1.0.0 0 1 01234 - 0 -")},
	})
	play(t, wanting(t, 0), []step{
		{"take v 2 " + noLives + " 0 1 9 0 2.1.pb1", ""},
		{"take k 0 0.0.1.0.0 0 1 0", ""},
		{"take v 3 0.0.0.0.0 0 1 0 0 -", ""},
		{"where", "0 1 2 0"},
		{"take v 4 0.0.0.0.0 0 1 0 0 -", toFour("s 1 0.0.1.0.0 0 1 01234 - 0 -")},
	})
	play(t, wanting(t, 0), []step{
		{"take v 2 " + noLives + " 0 1 9 0 2.1.pb1", ""},
		{"take v 2 0.0.4.0.0 0 1 5 0 2.2.pb2", ""},
		{"take v 3 0.9.4.0.0 0 1 5 0 3.1.pc1", toFour("s 1 0.0.4.0.0 0 1 01234 - 0 2.2.pb2")},
	})
	// A later life of others leaves a vote as it is.
	play(t, wanting(t, 0), []step{
		{"take v 2 0.0.3.0.0 0 1 9 0 2.1.pb1", ""},
		{"take c 0 7.7.3.7.7 0 1 0", "0: g 1 7.0.3.7.7 0 1"},
		{"take v 4 0.0.3.0.7 0 1 0 0 -", toFour("s 1 7.0.3.7.7 0 1 01234 - 0 2.1.pb1")},
	})
}

// To want and to count: ACKS 0. A primary that comes to lead again counts anew.
func TestP9Acks(t *testing.T) {
	steps := []step{
		{"take q 1 1 pa5", others("p 0 "+noLives+" 0 0 1 1.1.pa5 0", 1, 2, 3, 4)},
		{"take k 1 " + noLives + " 0 0 1", ""},
		{"take h 3 " + noLives + " 0 5", others("h 0 "+noLives+" 0 5", 1, 2, 3, 4)},
		{"take v 3 " + noLives + " 0 5 0 0 -", ""},
		{"take v 4 " + noLives + " 0 5 0 0 -", others("s 0 "+noLives+" 0 5 01234 - 0 1.1.pa5", 1, 2, 3, 4)},
		{"take k 2 " + noLives + " 0 5 1", ""},
		{"where", "0 5 1 0"},
		{"take k 1 " + noLives + " 0 5 1", "-1: y 1 1 ok"},
	}
	play(t, made(t, 0, 5, "01234"), steps)
}

// To count: what is decided then may turn the epoch.
func TestP9CountTurnsTheEpoch(t *testing.T) {
	play(t, made(t, 1, 4, "012"), []step{
		{"take h 2 0.0.0.0 0 1", others("h 1 0.0.0.0 0 1", 0, 2)},
		{"take v 2 0.0.0.0 0 1 0 2 1.1.pa5/1.2.r312", others("s 1 0.0.0.0 0 1 012 - 0 1.1.pa5/1.2.r312", 0, 2) +
			"; -1: y 1 1 ok; -1: y 1 2 ok; " + others("s 1 0.0.0.0 1 0 312 012 2 1.1.pa5/1.2.r312", 3, 2) + "; " + others("t 1 0.0.0.0 1 0", 0, 2)},
		{"where", "1 0 1 2"},
		{"groups", "[3 1 2] [0 1 2]"},
		// NORMAL is 0 in the new epoch.
		{"suspect", others("h 1 0.0.0.0 1 1", 3, 2)},
		{"suspect", others("h 1 0.0.0.0 1 2", 3, 2) + "; 2: v 1 0.0.0.0 1 2 0 2 1.1.pa5/1.2.r312"},
	})
}
