package replica_test

import "testing"

// Example 6, and that it goes on from there.
func TestP10Example(t *testing.T) {
	play(t, restarted(t, 1, 3, 4), []step{
		{"beat", others("r 1 0.4.0 0 0", 0, 2)},
		{"take a 0 0.4.0 0 0 4 012 - 1 1.1.pa5", ""},
		{"where", "0 0 3 0"},
		{"groups", "[] []"},
		{"log", ""},
		{"take a 2 0.4.0 0 0 4 012 - 0 -", "0: k 1 0.4.0 0 0 1"},
		{"where", "0 0 1 1"},
		{"groups", "[0 1 2] []"},
		{"log", "1.1.pa5"},
		{"value a", "5"},
		{"session 1", "1 ok"},
		{"beat", ""},
		{"take p 0 0.4.0 0 0 2 1.2.ga 2", "0: k 1 0.4.0 0 0 2"},
		{"session 1", "2 5"},
		{"take a 0 0.4.0 0 0 4 012 - 0 -", ""},
		{"suspect", others("h 1 0.4.0 0 1", 0, 2)},
		{"take a 0 0.4.0 0 0 4 012 - 0 -", ""},
		{"where", "0 1 2 2"},
	})
}

// P10: an answer to another life is none, whatever the lives of the message say; but lives are learned from it.
func TestP10OfAnotherLife(t *testing.T) {
	play(t, restarted(t, 1, 3, 4), []step{
		{"take a 0 0.4.0 0 0 3 012 - 0 -", ""},
		{"take a 0 0.4.0 0 0 5 012 - 0 -", ""},
		{"take a 2 0.4.1 0 0 4 012 - 0 -", ""},
		{"where", "0 0 3 0"},
		{"take a 0 0.4.0 0 0 5 012 - 0 -", ""},
		{"take a 0 7.4.0 0 0 999 012 - 0 -", ""},
		{"lives", "[7 4 1]"},
		{"where", "0 0 3 0"},
		{"take a 0 7.9.0 0 0 4 012 - 0 1.1.ga", "0: k 1 7.4.1 0 0 1"},
		{"lives", "[7 4 1]"},
	})
	// An answer to an earlier life does not take the place of one to this.
	play(t, restarted(t, 1, 3, 4), []step{
		{"take a 0 0.4.0 0 0 4 012 - 0 1.1.ga", ""},
		{"take a 0 0.4.0 0 0 3 012 - 0 -", ""},
		{"take a 2 0.4.0 0 0 4 012 - 0 -", "0: k 1 0.4.0 0 0 1"},
	})
}

// P10: more than f of the group must have answered, each of them counted once.
func TestP10MoreThanF(t *testing.T) {
	play(t, restarted(t, 4, 7, 1), []step{
		{"beat", others("r 4 0.0.0.0.1.0.0 0 0", 0, 1, 2, 3, 5, 6)},
		{"take a 0 0.0.0.0.1.0.0 0 0 1 01234 - 1 1.1.pa5/1.2.ga", ""},
		{"take a 0 0.0.0.0.1.0.0 0 0 1 01234 - 1 1.1.pa5/1.2.ga", ""},
		{"take a 0 0.0.0.0.1.0.0 0 0 1 01234 - 1 1.1.pa5/1.2.ga", ""},
		{"take a 1 0.0.0.0.1.0.0 0 0 1 01234 - 0 -", ""},
		// 5 and 6 are no members.
		{"take a 5 0.0.0.0.1.0.0 0 0 1 01234 - 0 -", ""},
		{"take a 6 0.0.0.0.1.0.0 0 7 1 01234 - 0 -", ""},
		{"where", "0 0 3 0"},
		{"take a 3 0.0.0.0.1.0.0 0 0 1 01234 - 0 -", "0: k 4 0.0.0.0.1.0.0 0 0 2"},
		{"where", "0 0 1 1"},
		{"log", "1.1.pa5/1.2.ga"},
		{"session 1", "1 ok"},
	})
	// f is that of the epoch's group, not of the n.
	play(t, restarted(t, 4, 7, 1), []step{
		{"take a 6 0.0.0.0.1.0.0 0 1 1 465 - 0 -", ""},
		{"take a 5 0.0.0.0.1.0.0 0 0 1 465 - 0 -", "6: k 4 0.0.0.0.1.0.0 0 1 0"},
		{"where", "0 1 1 0"},
	})
}

// P10: the answer must be the primary's, of the greatest view that is told of.
func TestP10PrimaryOfTheGreatestView(t *testing.T) {
	play(t, restarted(t, 2, 5, 7), []step{
		{"take a 1 0.0.7.0.0 0 1 7 01234 - 2 1.1.pa5/1.2.pa6", ""},
		{"take a 0 0.0.7.0.0 0 4 7 01234 - 0 -", ""},
		// 1 is the primary of view 1, but view 4 is told of, and then view 9: 4 is the primary of both.
		{"take a 3 0.0.7.0.0 0 1 7 01234 - 0 -", ""},
		{"take a 3 0.0.7.0.0 0 9 7 01234 - 0 2.1.gb", ""},
		{"take a 4 0.0.7.0.0 0 4 7 01234 - 1 1.1.pa7", ""},
		{"where", "0 0 3 0"},
		{"take a 4 0.0.7.0.0 0 9 7 01234 - 1 1.1.pa8/1.2.ga", "4: k 2 0.0.7.0.0 0 9 2"},
		{"where", "0 9 1 1"},
		{"value a", "8"},
		{"suspect", others("h 2 0.0.7.0.0 0 10", 0, 1, 3, 4) + "; 0: v 2 0.0.7.0.0 0 10 9 1 1.1.pa8/1.2.ga"},
	})
	// A new answer stands in the earlier one's place: what is told of is then view 3 alone.
	play(t, restarted(t, 2, 5, 7), []step{
		{"take a 0 0.0.7.0.0 0 5 7 01234 - 0 -", ""},
		{"take a 3 0.0.7.0.0 0 3 7 01234 - 0 1.1.ga", ""},
		{"take a 0 0.0.7.0.0 0 4 7 01234 - 0 -", ""},
		{"take a 1 0.0.7.0.0 0 3 7 01234 - 0 -", ""},
		{"where", "0 0 3 0"},
		{"take a 0 0.0.7.0.0 0 2 7 01234 - 0 -", "3: k 2 0.0.7.0.0 0 3 1"},
	})
	// The group's order settles who is the primary: of view 3 here 3, not 0.
	play(t, restarted(t, 2, 4, 7), []step{
		{"take a 0 0.0.7.0 0 3 7 320 - 0 -", ""},
		{"take a 3 0.0.7.0 0 3 7 320 - 0 1.1.ga", "3: k 2 0.0.7.0 0 3 1"},
	})
	// Before the restart it was the primary itself: nobody can answer that; it waits for a later view.
	play(t, restarted(t, 0, 3, 1), []step{
		{"take a 1 1.0.0 0 0 1 012 - 0 -", ""},
		{"take a 2 1.0.0 0 0 1 012 - 0 -", ""},
		{"where", "0 0 3 0"},
		{"take a 1 1.0.0 0 1 1 012 - 0 1.1.ga", "1: k 0 1.0.0 0 1 1"},
	})
}

// P10: the greatest epoch counts, by its own members' answers alone.
func TestP10GreatestEpoch(t *testing.T) {
	play(t, restarted(t, 2, 6, 1), []step{
		{"take a 3 0.0.1.0.0.0 1 0 1 234 012 1 1.1.r234", ""},
		// Of the earlier epoch there would be enough, and their view is greater.
		{"take a 0 0.0.1.0.0.0 0 9 1 012 - 0 -", ""},
		{"take a 1 0.0.1.0.0.0 0 9 1 012 - 0 -", ""},
		{"take a 4 0.0.1.0.0.0 0 9 1 012 - 0 -", ""},
		{"take a 5 0.0.1.0.0.0 1 2 1 234 012 1 1.1.r234", ""},
		{"where", "0 0 3 0"},
		{"take a 4 0.0.1.0.0.0 1 1 1 234 012 1 1.1.r234", ""},
		{"take a 3 0.0.1.0.0.0 1 1 1 234 012 2 1.1.r234/1.2.pa5/1.3.da", "3: k 2 0.0.1.0.0.0 1 1 3"},
		{"where", "1 1 1 2"},
		{"groups", "[2 3 4] [0 1 2]"},
		{"value a", "5"},
		{"log", "1.1.r234/1.2.pa5/1.3.da"},
	})
	play(t, restarted(t, 2, 6, 1), []step{
		{"take a 0 0.0.1.0.0.0 0 0 1 012 - 0 -", ""},
		{"take a 3 0.0.1.0.0.0 10 0 1 324 012 0 -", ""},
		{"take a 1 0.0.1.0.0.0 0 0 1 012 - 0 -", ""},
		{"where", "0 0 3 0"},
		{"take a 4 0.0.1.0.0.0 10 0 1 324 012 0 -", "3: k 2 0.0.1.0.0.0 10 0 0"},
		{"groups", "[3 2 4] [0 1 2]"},
	})
	// The last in the list is of the earlier epoch: its group settles nothing.
	play(t, restarted(t, 2, 6, 1), []step{
		{"take a 3 0.0.1.0.0.0 1 0 1 324 012 1 1.1.r324", ""},
		{"take a 4 0.0.1.0.0.0 0 0 1 012 - 0 -", ""},
		{"take a 0 0.0.1.0.0.0 0 0 1 012 - 0 -", ""},
		{"take a 4 0.0.1.0.0.0 1 0 1 324 012 1 1.1.r324", "3: k 2 0.0.1.0.0.0 1 0 1"},
	})
}

// P10: where answers of one epoch differ in their groups, the last in the list settles who counts; what is known from then on is by the primary's answer.
func TestP10GroupOfTheLast(t *testing.T) {
	play(t, restarted(t, 1, 5, 4), []step{
		{"take a 0 0.4.0.0.0 0 0 4 034 - 0 -", ""},
		{"take a 2 0.4.0.0.0 0 0 4 012 - 0 -", ""},
		{"where", "0 0 4 0"},
		{"groups", "[0 3 4] []"},
	})
	// The first answer came again, but stands where it stood: by the last, 4's, 0 does not count.
	play(t, restarted(t, 1, 5, 4), []step{
		{"take a 0 0.4.0.0.0 0 0 4 412 - 0 -", ""},
		{"take a 4 0.4.0.0.0 0 0 4 412 - 0 1.1.ga", ""},
		{"take a 0 0.4.0.0.0 0 0 4 401 - 0 -", ""},
		{"take a 3 0.4.0.0.0 1 0 4 310 210 0 -", ""},
		{"where", "0 0 3 0"},
		{"take a 3 0.4.0.0.0 0 0 4 012 - 0 -", ""},
		{"where", "0 0 3 0"},
		{"take a 3 0.4.0.0.0 0 0 4 403 - 0 -", "4: k 1 0.4.0.0.0 0 0 1"},
		{"groups", "[4 1 2] []"},
	})
	// By the primary's answer this one is the primary itself: no k, and the client is answered.
	play(t, restarted(t, 1, 3, 4), []step{
		{"take a 0 0.4.0 0 0 4 102 - 1 1.1.pa5/2.1.ga", ""},
		{"take a 2 0.4.0 0 0 4 012 - 0 -", "-1: y 1 1 ok"},
		{"where", "0 0 1 1"},
		{"take k 0 0.4.0 0 0 2", "-2: y 2 1 5"},
	})
}

// P10: a log that ends the epoch is none to go on from; the answers stay.
func TestP10Closing(t *testing.T) {
	play(t, restarted(t, 0, 3, 2), []step{
		{"take a 1 2.0.0 0 1 2 012 - 0 1.1.pa5/1.2.r120", ""},
		{"take a 2 2.0.0 0 1 2 012 - 0 -", ""},
		{"where", "0 0 3 0"},
		{"log", ""},
		{"take a 1 2.0.0 0 4 2 012 - 0 1.1.pa5", "1: k 0 2.0.0 0 4 1"},
		{"where", "0 4 1 0"},
	})
	// As many entries with r as the epoch's number, or fewer, are none too many; what is decided of them turns nothing.
	play(t, restarted(t, 0, 3, 2), []step{
		{"take a 1 2.0.0 2 0 2 120 012 3 1.1.r120/1.2.r012/1.3.r120", ""},
		{"take a 2 2.0.0 2 0 2 120 012 2 1.1.r120/1.2.r012", ""},
		{"where", "0 0 3 0"},
		{"take a 1 2.0.0 2 0 2 120 012 2 1.1.r120/1.2.r012/1.3.pa1", "1: k 0 2.0.0 2 0 3"},
		{"where", "2 0 1 2"},
		{"groups", "[1 2 0] [0 1 2]"},
		{"session 1", "2 ok"},
	})
	play(t, restarted(t, 0, 3, 2), []step{
		{"take a 1 2.0.0 2 0 2 120 012 1 1.1.r120", ""},
		{"take a 2 2.0.0 2 0 2 120 012 0 -", "1: k 0 2.0.0 2 0 1"},
		{"where", "2 0 1 1"},
	})
}

// P10: one that is no member any more is Away, and takes nothing over.
func TestP10Away(t *testing.T) {
	play(t, restarted(t, 0, 4, 2), []step{
		{"take a 1 2.0.0.0 1 3 2 123 012 1 1.1.r123", ""},
		{"take a 2 2.0.0.0 1 3 2 123 012 2 1.1.r123/1.2.pa5", ""},
		{"take a 1 2.0.0.0 1 3 2 123 012 2 1.1.r123/1.2.pa5", ""},
		{"where", "1 3 4 0"},
		{"groups", "[1 2 3] [0 1 2]"},
		{"log", ""},
		{"value a", ""},
		{"session 1", "0 "},
		{"beat", ""},
		{"suspect", ""},
		{"take q 1 3 ga", ""},
		{"take r 1 2.1.0.0 0 0", ""},
		{"take g 1 2.1.0.0 1 3", ""},
		{"take g 1 2.1.0.0 2 0", "1: g 0 2.1.0.0 1 3"},
	})
}

// P6: answers of a life that is over are forgotten, by whatever message that is learned.
func TestP6AnswersOfALifeThatIsOver(t *testing.T) {
	for _, text := range []string{"a 2 1.0.0 0 0 9 012 - 0 -", "k 2 1.0.0 0 0 0", "r 2 1.0.0 0 0", "s 2 1.0.0 0 0 012 - 0 -", "t 2 1.0.0 5 0", "g 0 1.0.0 0 0"} {
		play(t, restarted(t, 1, 3, 4), []step{
			{"take a 0 0.4.0 0 0 4 012 - 1 1.1.pa5", ""},
			{"take " + text, ""},
			{"take a 2 1.4.0 0 0 4 012 - 0 -", ""},
			{"where", "0 0 3 0"},
			{"take a 0 0.4.0 0 0 4 012 - 1 1.1.pa5", ""},
			{"where", "0 0 3 0"},
			{"take a 0 1.4.0 0 0 4 012 - 0 1.1.pa6", "0: k 1 1.4.0 0 0 1"},
			{"where", "0 0 1 0"},
		})
	}
}
