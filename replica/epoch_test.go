package replica_test

import (
	"testing"

	"quorum/replica"
)

// carrying is replica 1 of five: the Normal primary of epoch 1, of which it has one entry decided and one not.
func carrying(t *testing.T) *replica.Replica {
	t.Helper()
	r := made(t, 1, 5, "012")
	r.Take("p 0 0.0.0.0.0 0 0 1 1.1.r123 1")
	r.Take("q 2 1 pa5")
	play(t, r, []step{{"where", "1 0 1 1"}, {"groups", "[1 2 3] [0 1 2]"}, {"log", "1.1.r123/2.1.pa5"}})
	return r
}

// leaving is replica 0 of five: in epoch 1, which it does not carry, but has begun.
func leaving(t *testing.T) *replica.Replica {
	t.Helper()
	r := made(t, 0, 5, "012")
	r.Take("m 1 1 0 123")
	r.Take("k 1 0.0.0.0.0 0 0 1")
	play(t, r, []step{{"where", "1 0 5 1"}, {"log", "1.1.r123"}})
	return r
}

// P11: s of a later epoch, to a member of its group that was none before (example 10).
func TestP11LaterEpochBegins(t *testing.T) {
	play(t, made(t, 3, 4, "012"), []step{
		{"take p 1 0.0.0.0 1 0 2 1.2.pa5 1", "1: g 3 0.0.0.0 0 0"},
		{"take s 1 0.0.0.0 1 0 123 012 1 1.1.r123", others("t 3 0.0.0.0 1 0", 0, 1, 2) + "; 1: k 3 0.0.0.0 1 0 1"},
		{"where", "1 0 1 1"},
		{"groups", "[1 2 3] [0 1 2]"},
		{"session 1", "1 ok"},
		// A t may have been lost: whoever leaves asks again by its state.
		{"take s 0 0.0.0.0 1 0 123 012 1 1.1.r123", "0: t 3 0.0.0.0 1 0"},
		{"take p 1 0.0.0.0 1 0 2 1.2.pa5 2", "1: k 3 0.0.0.0 1 0 2"},
		{"value a", "5"},
	})
	// It is the primary of the view: no k, and the clients of what is decided now are answered.
	play(t, made(t, 3, 5, "012"), []step{
		{"take s 1 0.0.0.0.0 2 5 413 201 2 1.1.r201/1.2.r413/2.1.pa5", others("t 3 0.0.0.0.0 2 5", 2, 0, 1) + "; -1: y 1 1 ok; -1: y 1 2 ok"},
		{"where", "2 5 1 2"},
		{"groups", "[4 1 3] [2 0 1]"},
		{"take k 4 0.0.0.0.0 2 5 3", "-2: y 2 1 ok"},
		{"suspect", others("h 3 0.0.0.0.0 2 6", 4, 1) + "; 4: v 3 0.0.0.0.0 2 6 5 3 1.1.r201/1.2.r413/2.1.pa5"},
	})
	// Of no old group; by anybody; nothing is decided.
	play(t, made(t, 3, 5, "012"), []step{
		{"take s 4 0.0.0.0.0 10 999 013 - 0 -", "0: k 3 0.0.0.0.0 10 999 0"},
		{"where", "10 999 1 0"},
		{"groups", "[0 1 3] []"},
		{"suspect", ""},
	})
}

// P11: s of a later epoch, to one that has carried an earlier one and carries this.
func TestP11LaterEpochGoesOn(t *testing.T) {
	// In status Normal: what is not of the message's log is gone, and the t go to the message's old group.
	play(t, made(t, 1, 5, "012"), []step{
		{"take p 0 0.0.0.0.0 0 0 1 1.1.pa5 0", "0: k 1 0.0.0.0.0 0 0 1"},
		{"take p 0 0.0.0.0.0 0 0 2 1.2.pb6 2", "0: k 1 0.0.0.0.0 0 0 2"},
		{"take s 3 0.0.0.0.0 1 4 314 012 1 2.1.r314", others("t 1 0.0.0.0.0 1 4", 0, 2)},
		{"where", "1 4 1 1"},
		{"log", "2.1.r314"},
		{"value a", ""},
		{"session 1", "0 "},
		{"session 2", "1 ok"},
		{"take s 4 0.0.0.0.0 3 1 012 431 1 2.1.r314/2.2.pa7", others("t 1 0.0.0.0.0 3 1", 4, 3)},
		{"where", "3 1 1 1"},
		{"groups", "[0 1 2] [4 3 1]"},
		{"value a", ""},
		{"take k 2 0.0.0.0.0 3 1 2", "-2: y 2 2 ok"},
		{"value a", "7"},
	})
	// In status Change, with a vote: that is of the view that was.
	play(t, made(t, 1, 5, "01234"), []step{
		{"take h 2 " + noLives + " 0 1", others("h 1 "+noLives+" 0 1", 0, 2, 3, 4)},
		{"take v 2 " + noLives + " 0 1 0 0 -", ""},
		{"take s 0 " + noLives + " 1 0 21034 01234 1 1.1.r21034", others("t 1 "+noLives+" 1 0", 0, 2, 3, 4) + "; 2: k 1 " + noLives + " 1 0 1"},
		{"where", "1 0 1 1"},
		{"suspect", others("h 1 "+noLives+" 1 1", 2, 0, 3, 4)},
		{"take v 3 " + noLives + " 1 1 0 1 1.1.r21034", ""},
		{"where", "1 1 2 1"},
	})
	// ACKS are 0.
	play(t, made(t, 0, 5, "01234"), []step{
		{"take q 1 1 pa5", others("p 0 "+noLives+" 0 0 1 1.1.pa5 0", 1, 2, 3, 4)},
		{"take k 1 " + noLives + " 0 0 1", ""},
		{"take s 2 " + noLives + " 1 5 01234 01234 0 1.1.r01234", others("t 0 "+noLives+" 1 5", 1, 2, 3, 4)},
		{"take k 2 " + noLives + " 1 5 1", ""},
		{"where", "1 5 1 0"},
		{"take k 1 " + noLives + " 1 5 1", "-1: y 1 1 ok"},
		{"where", "1 5 1 1"},
	})
}

// P11: to CATCH UP may turn the epoch anew: the t and the k are of the epoch ahead of that.
func TestP11LaterEpochTurns(t *testing.T) {
	log := "1.1.r123/1.2.r301/1.3.pa5"
	play(t, made(t, 3, 4, "012"), []step{
		{"take s 1 0.0.0.0 1 0 123 012 3 " + log, others("t 3 0.0.0.0 1 0", 0, 1, 2) + "; 1: k 3 0.0.0.0 1 0 3; " +
			others("s 3 0.0.0.0 2 0 301 123 2 "+log, 0, 1) + "; " + others("t 3 0.0.0.0 2 0", 1, 2)},
		{"where", "2 0 1 2"},
		{"value a", ""},
		// It is that one's primary, and decides what is left.
		{"take k 0 0.0.0.0 2 0 3", "-1: y 1 3 ok"},
	})
}

// P11: one that leaves hands on how the epoch began.
func TestP11Leaves(t *testing.T) {
	log := "2.1.pb7/1.1.r134"
	state := others("s 0 0.0.0.0.0 1 0 134 012 2 "+log, 1, 3, 4)
	play(t, made(t, 0, 5, "012"), []step{
		{"take s 1 0.0.0.0.0 1 2 134 012 3 " + log + "/2.2.pb8", state},
		{"where", "1 0 5 2"},
		{"groups", "[1 3 4] [0 1 2]"},
		{"log", log},
		{"value b", "7"},
		{"session 2", "1 ok"},
		{"beat", state},
		{"take g 4 0.0.0.0.0 0 0", "4: " + "s 0 0.0.0.0.0 1 0 134 012 2 " + log},
		{"suspect", ""},
		{"take q 3 1 ga", ""},
	})
	// No more than COMMIT is decided.
	play(t, made(t, 0, 5, "012"), []step{
		{"take s 3 0.0.0.0.0 1 2 134 012 1 " + log + "/2.2.pb8", others("s 0 0.0.0.0.0 1 0 134 012 1 "+log, 1, 3, 4)},
		{"where", "1 0 5 1"},
		{"value b", "7"},
		{"session 1", "0 "},
	})
	// In status Change, with more decided than the log has then: its length is.
	play(t, made(t, 2, 5, "012"), []step{
		{"take p 0 0.0.0.0.0 0 0 1 1.1.pa5 0", "0: k 2 0.0.0.0.0 0 0 1"},
		{"take p 0 0.0.0.0.0 0 0 2 1.2.pa6 2", "0: k 2 0.0.0.0.0 0 0 2"},
		{"suspect", others("h 2 0.0.0.0.0 0 1", 0, 1) + "; 1: v 2 0.0.0.0.0 0 1 0 2 1.1.pa5/1.2.pa6"},
		{"take s 1 0.0.0.0.0 1 0 431 012 0 1.1.r431/1.2.pa7", others("s 2 0.0.0.0.0 1 0 431 012 1 1.1.r431", 4, 3, 1)},
		{"where", "1 0 5 1"},
		{"value a", ""},
		{"session 1", "1 ok"},
	})
	// The entry with r that counts is the epoch's, neither the first nor the last.
	play(t, carrying(t), []step{
		{"take s 2 0.0.0.0.0 2 7 034 123 4 1.1.r123/2.1.pa5/1.2.r034/1.3.r340", others("s 1 0.0.0.0.0 2 0 034 123 3 1.1.r123/2.1.pa5/1.2.r034", 0, 3, 4)},
		{"where", "2 0 5 3"},
		{"value a", "5"},
	})
	// With fewer entries with r it is the whole log.
	play(t, carrying(t), []step{
		{"take s 2 0.0.0.0.0 2 7 034 123 2 1.1.r123/2.1.pa5/2.2.ga", others("s 1 0.0.0.0.0 2 0 034 123 2 1.1.r123/2.1.pa5/2.2.ga", 0, 3, 4)},
		{"where", "2 0 5 2"},
	})
}

// P11: who is no member and does not leave is Away; log, what is decided and the service stay.
func TestP11Away(t *testing.T) {
	for _, c := range []struct {
		text  string
		where string
	}{
		{"s 3 0.0.0.0.0 3 1 034 012 1 1.1.r034", "3 1 4 1"},          // two more
		{"s 3 0.0.0.0.0 10 9 034 123 0 -", "10 9 4 1"},               // nine more
		{"s 0 0.0.0.0.0 2 1 034 023 2 1.1.r123/1.2.r034", "2 1 4 1"}, // no member of the old group
		{"s 4 0.0.0.0.0 2 5 034 - 1 1.1.r123", "2 5 4 1"},            // there is no old group
	} {
		r := carrying(t)
		play(t, r, []step{
			{"take " + c.text, ""},
			{"where", c.where},
			{"log", "1.1.r123/2.1.pa5"},
			{"session 1", "1 ok"},
			{"beat", ""},
			{"suspect", ""},
			{"take q 3 1 ga", ""},
		})
		if got := answer(r, "groups"); got[:7] != "[0 3 4]" {
			t.Errorf("%s: %s", c.text, got)
		}
	}
	// One that was Away, or that leaves already, does not leave.
	play(t, made(t, 4, 5, "012"), []step{
		{"take s 1 0.0.0.0.0 1 3 123 124 1 1.1.r123", ""},
		{"where", "1 3 4 0"},
		{"groups", "[1 2 3] [1 2 4]"},
		{"log", ""},
		{"take s 1 0.0.0.0.0 2 0 012 412 2 1.1.r123/1.2.r012", ""},
		{"where", "2 0 4 0"},
		{"take h 1 0.0.0.0.0 2 1", ""},
		{"take h 1 0.0.0.0.0 3 0", "1: g 4 0.0.0.0.0 2 0"},
	})
	play(t, leaving(t), []step{
		{"take s 1 0.0.0.0.0 2 1 234 012 2 1.1.r123/1.2.r234", ""},
		{"where", "2 1 4 1"},
		{"groups", "[2 3 4] [0 1 2]"},
		{"log", "1.1.r123"},
		{"beat", ""},
	})
	// One that leaves may be called back.
	play(t, leaving(t), []step{
		{"take s 1 0.0.0.0.0 2 1 023 123 2 1.1.r123/2.1.pa5/1.2.r023", others("t 0 0.0.0.0.0 2 1", 1, 2, 3) + "; 2: k 0 0.0.0.0.0 2 1 3"},
		{"where", "2 1 1 2"},
		{"value a", "5"},
	})
}

// P11: s of an earlier epoch.
func TestP11EarlierEpoch(t *testing.T) {
	r := carrying(t)
	play(t, r, []step{
		{"take s 0 0.0.0.0.0 0 9 012 - 1 1.1.pa9", "0: s 1 0.0.0.0.0 1 0 123 012 1 1.1.r123/2.1.pa5"},
		{"take s 4 0.0.0.0.0 0 0 412 - 0 -", "4: s 1 0.0.0.0.0 1 0 123 012 1 1.1.r123/2.1.pa5"},
		{"take k 2 0.0.0.0.0 1 0 2", "-2: y 2 1 ok"},
		{"suspect", others("h 1 0.0.0.0.0 1 1", 2, 3) + "; 2: v 1 0.0.0.0.0 1 1 0 2 1.1.r123/2.1.pa5"},
		{"take s 0 0.0.0.0.0 0 9 012 - 1 1.1.pa9", "0: s 1 0.0.0.0.0 1 0 123 012 1 1.1.r123"},
		{"take s 4 0.0.0.0.0 0 1 412 - 0 -", "4: s 1 0.0.0.0.0 1 0 123 012 1 1.1.r123"},
		{"where", "1 1 2 2"},
		{"log", "1.1.r123/2.1.pa5"},
	})
	r = leaving(t)
	play(t, r, []step{
		{"take s 1 0.0.0.0.0 0 0 012 - 0 1.1.r123", ""},
		{"take s 1 0.0.0.0.0 0 7 012 - 1 1.2.r120", ""},
		{"where", "1 0 5 1"},
		{"take t 1 0.0.0.0.0 1 0", ""},
		{"take t 2 0.0.0.0.0 1 0", ""},
		{"where", "1 0 4 1"},
		{"take s 1 0.0.0.0.0 0 0 012 - 0 1.1.r123", ""},
		{"take s 1 0.0.0.0.0 0 7 012 - 1 1.2.r120", ""},
		{"where", "1 0 4 1"},
		{"log", "1.1.r123"},
	})
}

// P11: t: with more than f that have STARTED, one that leaves is Away.
func TestP11Started(t *testing.T) {
	play(t, leaving(t), []step{
		{"take t 3 0.0.0.0.0 1 0", ""},
		{"where", "1 0 5 1"},
		// The same one again, who is no member, and other epochs: nothing.
		{"take t 3 0.0.0.0.0 1 0", ""},
		{"take t 4 0.0.0.0.0 1 0", ""},
		{"take t 1 0.0.0.0.0 0 0", ""},
		{"take t 1 0.0.0.0.0 2 0", ""},
		{"take t 0 0.0.0.0.0 1 0", ""},
		{"where", "1 0 5 1"},
		{"beat", others("s 0 0.0.0.0.0 1 0 123 012 1 1.1.r123", 1, 2, 3)},
		// The view does not matter.
		{"take t 2 0.0.0.0.0 1 8", ""},
		{"where", "1 0 4 1"},
		{"beat", ""},
		{"take g 1 0.0.0.0.0 1 0", ""},
		{"take t 1 0.0.0.0.0 1 0", ""},
		{"where", "1 0 4 1"},
		{"log", "1.1.r123"},
		{"groups", "[1 2 3] [0 1 2]"},
	})
	// f is that of the new group.
	r := made(t, 0, 6, "012")
	r.Take("m 1 1 0 12345")
	r.Take("k 1 0.0.0.0.0.0 0 0 1")
	play(t, r, []step{
		{"take t 5 0.0.0.0.0.0 1 0", ""},
		{"take t 1 0.0.0.0.0.0 1 0", ""},
		{"where", "1 0 5 1"},
		{"take t 3 0.0.0.0.0.0 1 0", ""},
		{"where", "1 0 4 1"},
	})
	// One that has begun a later life has STARTED all the same; one whose life is over says nothing.
	play(t, leaving(t), []step{
		{"take t 3 0.0.0.2.0 1 0", ""},
		{"take t 2 0.0.0.5.0 1 0", ""},
		{"where", "1 0 4 1"},
	})
	play(t, leaving(t), []step{
		{"take t 3 0.0.5.2.0 1 0", ""},
		{"take t 2 0.0.4.2.0 1 0", ""},
		{"where", "1 0 5 1"},
	})
}

// P11: t in any other status: nothing.
func TestP11StartedElsewhere(t *testing.T) {
	starts := []step{{"take t 1 0.0.0.0.0 1 0", ""}, {"take t 2 0.0.0.0.0 1 0", ""}, {"take t 3 0.0.0.0.0 1 0", ""}, {"take t 0 0.0.0.0.0 0 0", ""}, {"take t 2 0.0.0.0.0 2 0", ""}}
	change := carrying(t)
	change.Suspect()
	away := leaving(t)
	away.Take("s 1 0.0.0.0.0 2 0 234 123 2 1.1.r123/1.2.r234")
	for _, r := range []*replica.Replica{carrying(t), change, away, made(t, 4, 5, "012"), restarted(t, 4, 5, 1)} {
		before := all(r)
		play(t, r, starts)
		if all(r) != before {
			t.Errorf("by t: %s\nbefore: %s", all(r), before)
		}
	}
}

// P8 and P11: whoever comes to leave, nobody has STARTED; what is told ahead of that does not count.
func TestP11NobodyStarted(t *testing.T) {
	// By the epoch's turn.
	play(t, leaving(t), []step{
		{"take t 3 0.0.0.0.0 1 0", ""},
		{"take s 1 0.0.0.0.0 2 0 012 123 2 1.1.r123/1.2.r012", others("t 0 0.0.0.0.0 2 0", 1, 2, 3) + "; -1: y 1 2 ok"},
		{"take t 3 0.0.0.0.0 2 0", ""},
		{"take m 1 3 2 123", others("p 0 0.0.0.0.0 2 0 3 1.3.r123 2", 1, 2)},
		{"take k 1 0.0.0.0.0 2 0 3", "-1: y 1 3 ok; " + others("s 0 0.0.0.0.0 3 0 123 012 3 1.1.r123/1.2.r012/1.3.r123", 1, 2, 3)},
		{"take t 2 0.0.0.0.0 3 0", ""},
		{"where", "3 0 5 3"},
		{"take t 3 0.0.0.0.0 3 0", ""},
		{"where", "3 0 4 3"},
	})
	// By s of a later epoch.
	log := "1.1.r123/1.2.r012/1.3.r123"
	play(t, leaving(t), []step{
		{"take t 3 0.0.0.0.0 1 0", ""},
		{"take s 1 0.0.0.0.0 2 0 012 123 2 1.1.r123/1.2.r012", others("t 0 0.0.0.0.0 2 0", 1, 2, 3) + "; -1: y 1 2 ok"},
		{"take s 1 0.0.0.0.0 3 0 123 012 3 " + log, others("s 0 0.0.0.0.0 3 0 123 012 3 "+log, 1, 2, 3)},
		{"take t 2 0.0.0.0.0 3 0", ""},
		{"where", "3 0 5 3"},
		{"take t 1 0.0.0.0.0 3 0", ""},
		{"where", "3 0 4 3"},
	})
}
