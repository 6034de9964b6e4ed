package replica_test

import (
	"testing"

	"quorum/api"
)

func TestP8Entry(t *testing.T) {
	play(t, made(t, 1, 4, "012"), []step{
		{"take p 0 0.0.0.0 0 0 2 1.1.pa5 0", "0: g 1 0.0.0.0 0 0"},
		{"take p 2 0.0.0.0 0 0 1 1.1.pa5 0", ""},
		{"take p 3 0.0.0.0 0 0 1 1.1.pa5 0", ""},
		{"take p 2 0.0.0.0 0 0 9 1.1.pa5 0", ""},
		{"log", ""},
		{"take p 0 0.0.0.0 0 0 1 1.1.pa5 10", "0: k 1 0.0.0.0 0 0 1"},
		{"where", "0 0 1 1"},
		{"take p 0 0.0.0.0 0 0 2 1.2.pa6 0", "0: k 1 0.0.0.0 0 0 2"},
		{"where", "0 0 1 1"},
		{"take p 0 0.0.0.0 0 0 1 9.9.pb9 0", "0: k 1 0.0.0.0 0 0 2"},
		{"log", "1.1.pa5/1.2.pa6"},
		{"take p 0 0.0.0.0 0 0 4 1.4.pa6 2", "0: g 1 0.0.0.0 0 0"},
		{"where", "0 0 1 1"},
		{"take p 0 0.0.0.0 0 0 2 9.9.pb9 2", "0: k 1 0.0.0.0 0 0 2"},
		{"where", "0 0 1 2"},
		{"value a", "6"},
		{"value b", ""},
	})
}

func TestP8Closing(t *testing.T) {
	play(t, made(t, 1, 4, "012"), []step{
		{"take p 0 0.0.0.0 0 0 1 1.1.pa5 0", "0: k 1 0.0.0.0 0 0 1"},
		{"take p 0 0.0.0.0 0 0 2 1.2.r123 0", "0: k 1 0.0.0.0 0 0 2"},
		{"take p 0 0.0.0.0 0 0 3 1.3.pa6 2", ""},
		{"where", "0 0 1 0"},
		{"log", "1.1.pa5/1.2.r123"},
		{"take p 0 0.0.0.0 0 0 4 1.3.pa6 2", "0: g 1 0.0.0.0 0 0"},
		{"take p 0 0.0.0.0 0 0 2 1.2.r123 1", "0: k 1 0.0.0.0 0 0 2"},
		{"where", "0 0 1 1"},
	})
}

func TestP8Commit(t *testing.T) {
	play(t, made(t, 2, 4, "012"), []step{
		{"take p 0 0.0.0.0 0 0 1 1.1.pa5 0", "0: k 2 0.0.0.0 0 0 1"},
		{"take p 0 0.0.0.0 0 0 2 1.2.ga 0", "0: k 2 0.0.0.0 0 0 2"},
		{"take c 0 0.0.0.0 0 0 3", "0: g 2 0.0.0.0 0 0"},
		{"where", "0 0 1 0"},
		{"take c 1 0.0.0.0 0 0 2", ""},
		{"take c 3 0.0.0.0 0 0 2", ""},
		{"take c 1 0.0.0.0 0 0 9", ""},
		{"where", "0 0 1 0"},
		{"take c 0 0.0.0.0 0 0 2", ""},
		{"where", "0 0 1 2"},
		{"take c 0 0.0.0.0 0 0 1", ""},
		{"where", "0 0 1 2"},
		{"session 1", "2 5"},
	})
}

func TestP8Ack(t *testing.T) {
	play(t, made(t, 0, 6, "01234"), []step{
		{"take q 1 1 pa1", others("p 0 0.0.0.0.0.0 0 0 1 1.1.pa1 0", 1, 2, 3, 4)},
		{"take q 1 2 pa2", others("p 0 0.0.0.0.0.0 0 0 2 1.2.pa2 0", 1, 2, 3, 4)},
		{"take q 2 3 ga", others("p 0 0.0.0.0.0.0 0 0 3 2.3.ga 0", 1, 2, 3, 4)},
		{"take k 1 0.0.0.0.0.0 0 0 4", ""},
		{"take k 2 0.0.0.0.0.0 0 0 10", ""},
		{"where", "0 0 1 0"},
		{"take k 5 0.0.0.0.0.0 0 0 3", ""},
		{"take k 1 0.0.0.0.0.0 0 0 3", ""},
		{"take k 1 0.0.0.0.0.0 0 0 3", ""},
		{"where", "0 0 1 0"},
		{"take k 1 0.0.0.0.0.0 0 0 1", ""},
		{"take k 4 0.0.0.0.0.0 0 0 0", ""},
		{"take k 2 0.0.0.0.0.0 0 0 2", "-1: y 1 1 ok; -1: y 1 2 ok"},
		{"where", "0 0 1 2"},
		{"take k 3 0.0.0.0.0.0 0 0 1", ""},
		{"where", "0 0 1 2"},
		{"take k 3 0.0.0.0.0.0 0 0 3", "-2: y 2 3 2"},
		{"where", "0 0 1 3"},
		{"take p 1 0.0.0.0.0.0 0 0 4 1.9.ga 0", ""},
		{"take c 1 0.0.0.0.0.0 0 0 9", ""},
	})
	play(t, made(t, 1, 3, "012"), []step{
		{"take p 0 0.0.0 0 0 1 1.1.pa5 0", "0: k 1 0.0.0 0 0 1"},
		{"take k 2 0.0.0 0 0 1", ""},
		{"take k 0 0.0.0 0 0 1", ""},
		{"where", "0 0 1 0"},
	})
}

func TestP8State(t *testing.T) {
	play(t, made(t, 1, 4, "012"), []step{
		{"take p 0 0.0.0.0 0 0 1 1.1.pa5 0", "0: k 1 0.0.0.0 0 0 1"},
		{"take p 0 0.0.0.0 0 0 2 2.7.ca5z 1", "0: k 1 0.0.0.0 0 0 2"},
		{"take g 0 0.0.0.0 0 0", "0: s 1 0.0.0.0 0 0 012 - 1 1.1.pa5/2.7.ca5z"},
		{"take g 3 0.0.0.0 0 0", "3: s 1 0.0.0.0 0 0 012 - 1 1.1.pa5/2.7.ca5z"},
		{"take h 2 0.0.0.0 0 0", "2: s 1 0.0.0.0 0 0 012 - 1 1.1.pa5/2.7.ca5z"},
		{"take v 2 0.0.0.0 0 0 0 0 -", "2: s 1 0.0.0.0 0 0 012 - 1 1.1.pa5/2.7.ca5z"},
		{"take h 3 0.0.0.0 0 0", ""},
		{"take v 3 0.0.0.0 0 0 0 0 -", ""},
	})
}

// To decide: the epoch turns at most once at a time, and what was carried out stays.
func TestDecideTurns(t *testing.T) {
	play(t, made(t, 2, 5, "012"), []step{
		{"take p 0 0.0.0.0.0 0 0 1 1.1.pa5 0", "0: k 2 0.0.0.0.0 0 0 1"},
		{"take p 0 0.0.0.0.0 0 0 2 2.1.r20134 0", "0: k 2 0.0.0.0.0 0 0 2"},
		{"take c 0 0.0.0.0.0 0 0 2", others("s 2 0.0.0.0.0 1 0 20134 012 2 1.1.pa5/2.1.r20134", 0, 1, 3, 4) + "; " + others("t 2 0.0.0.0.0 1 0", 0, 1)},
		{"where", "1 0 1 2"},
		{"groups", "[2 0 1 3 4] [0 1 2]"},
		{"session 2", "1 ok"},
		{"value a", "5"},
		{"take m 1 2 1 340", others("p 2 0.0.0.0.0 1 0 3 1.2.r340 2", 0, 1, 3, 4)},
		{"take k 0 0.0.0.0.0 1 0 3", ""},
		{"take k 0 0.0.0.0.0 0 0 3", "0: s 2 0.0.0.0.0 1 0 20134 012 2 1.1.pa5/2.1.r20134/1.2.r340"},
		{"take k 4 0.0.0.0.0 1 0 3", "-1: y 1 2 ok; " + others("s 2 0.0.0.0.0 2 0 340 20134 3 1.1.pa5/2.1.r20134/1.2.r340", 3, 4, 0)},
		{"where", "2 0 5 3"},
		{"groups", "[3 4 0] [2 0 1 3 4]"},
		{"value a", "5"},
	})
}

// Behind the turn the new group's members are counted anew.
func TestAcksBehindTheTurn(t *testing.T) {
	play(t, made(t, 0, 3, "012"), []step{
		{"take m 1 1 0 021", others("p 0 0.0.0 0 0 1 1.1.r021 0", 1, 2)},
		{"take k 1 0.0.0 0 0 1", "-1: y 1 1 ok; " + others("s 0 0.0.0 1 0 021 012 1 1.1.r021", 2, 1) + "; " + others("t 0 0.0.0 1 0", 1, 2)},
		{"take q 1 2 pa5", others("p 0 0.0.0 1 0 2 1.2.pa5 1", 2, 1)},
		{"take k 1 0.0.0 1 0 1", ""},
		{"take k 1 0.0.0 1 0 2", "-1: y 1 2 ok"},
	})
}

// ACKS of a place beyond the turn are of the group that was.
func TestAcksBeyondTheTurn(t *testing.T) {
	log := "1.1.r021/1.2.pa5"
	play(t, made(t, 0, 3, "012"), []step{
		{"take s 1 0.0.0 0 3 012 - 0 " + log, ""},
		{"take k 1 0.0.0 0 3 2", "-1: y 1 1 ok; " + others("s 0 0.0.0 1 0 021 012 1 "+log, 2, 1) + "; " + others("t 0 0.0.0 1 0", 1, 2)},
		{"where", "1 0 1 1"},
		{"take k 2 0.0.0 1 0 1", ""},
		{"where", "1 0 1 1"},
		{"take k 2 0.0.0 1 0 2", "-1: y 1 2 ok"},
	})
}

// The epoch turns at an entry with r alone, and at none that an epoch before has turned at.
func TestDecideTurnsNot(t *testing.T) {
	play(t, made(t, 1, 3, "012"), []step{
		{"take p 0 0.0.0 0 0 1 1.1.pa5 1", "0: k 1 0.0.0 0 0 1"},
		{"take s 2 0.0.0 0 2 012 - 2 1.1.r120/1.2.pa6", "2: k 1 0.0.0 0 2 2"},
		{"where", "0 2 1 2"},
		{"groups", "[0 1 2] []"},
	})
	play(t, made(t, 1, 3, "012"), []step{
		{"take p 0 0.0.0 0 0 1 1.1.r120 1", "0: k 1 0.0.0 0 0 1; " + others("s 1 0.0.0 1 0 120 012 1 1.1.r120", 2, 0) + "; " + others("t 1 0.0.0 1 0", 0, 2)},
		{"take s 2 0.0.0 1 1 120 012 0 -", "2: k 1 0.0.0 1 1 0"},
		{"where", "1 1 1 0"},
		{"take p 2 0.0.0 1 1 1 1.1.r210 1", "2: k 1 0.0.0 1 1 1"},
		{"where", "1 1 1 1"},
		{"take p 2 0.0.0 1 1 2 1.2.r201 1", "2: k 1 0.0.0 1 1 2"},
		{"take p 2 0.0.0 1 1 3 1.3.pa5 2", ""},
		{"take c 2 0.0.0 1 1 2", others("s 1 0.0.0 2 0 201 120 2 1.1.r210/1.2.r201", 2, 0) + "; " + others("t 1 0.0.0 2 0", 2, 0)},
		{"where", "2 0 1 2"},
	})
}

func TestP12Beat(t *testing.T) {
	play(t, made(t, 0, 3, "012"), []step{
		{"beat", others("c 0 0.0.0 0 0 0", 1, 2)},
		{"take q 1 1 pa5", others("p 0 0.0.0 0 0 1 1.1.pa5 0", 1, 2)},
		{"take q 2 1 ga", others("p 0 0.0.0 0 0 2 2.1.ga 0", 1, 2)},
		{"take q 3 1 da", others("p 0 0.0.0 0 0 3 3.1.da 0", 1, 2)},
		{"beat", others("p 0 0.0.0 0 0 1 1.1.pa5 0", 1, 2) + "; " + others("p 0 0.0.0 0 0 2 2.1.ga 0", 1, 2) + "; " + others("p 0 0.0.0 0 0 3 3.1.da 0", 1, 2)},
		{"take k 1 0.0.0 0 0 1", "-1: y 1 1 ok"},
		{"beat", others("p 0 0.0.0 0 0 2 2.1.ga 1", 1, 2) + "; " + others("p 0 0.0.0 0 0 3 3.1.da 1", 1, 2)},
		{"take k 1 0.0.0 0 0 3", "-2: y 2 1 5; -3: y 3 1 ok"},
		{"beat", others("c 0 0.0.0 0 0 3", 1, 2)},
		{"beat", others("c 0 0.0.0 0 0 3", 1, 2)},
	})
	play(t, made(t, 1, 3, "012"), []step{{"beat", ""}})
	play(t, made(t, 3, 4, "012"), []step{{"beat", ""}})
	play(t, restarted(t, 1, 4, 4), []step{{"beat", others("r 1 0.4.0.0 0 0", 0, 2, 3)}})
}

func TestP12Suspect(t *testing.T) {
	r := made(t, 0, 3, "012")
	play(t, r, []step{
		{"take q 1 1 pa5", others("p 0 0.0.0 0 0 1 1.1.pa5 0", 1, 2)},
		{"suspect", others("h 0 0.0.0 0 1", 1, 2) + "; 1: v 0 0.0.0 0 1 0 0 1.1.pa5"},
		{"where", "0 1 2 0"},
		{"beat", others("h 0 0.0.0 0 1", 1, 2) + "; 1: v 0 0.0.0 0 1 0 0 1.1.pa5"},
		{"suspect", others("h 0 0.0.0 0 2", 1, 2) + "; 2: v 0 0.0.0 0 2 0 0 1.1.pa5"},
		{"suspect", others("h 0 0.0.0 0 3", 1, 2)},
		{"beat", others("h 0 0.0.0 0 3", 1, 2)},
	})
	for view := 4; view <= api.MaxNum; view++ {
		r.Suspect()
	}
	play(t, r, []step{
		{"where", "0 999 2 0"},
		{"suspect", ""},
		{"where", "0 999 2 0"},
	})
}
