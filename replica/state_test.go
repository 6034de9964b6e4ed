package replica_test

import "testing"

// P11: s of a later view of this epoch, or of this one in status Change.
func TestP11StateBeginsAView(t *testing.T) {
	play(t, made(t, 2, 4, "012"), []step{
		{"take p 0 0.0.0.0 0 0 1 1.1.pa5 1", "0: k 2 0.0.0.0 0 0 1"},
		{"take p 0 0.0.0.0 0 0 2 1.2.pa6 2", "0: k 2 0.0.0.0 0 0 2"},
		{"value a", "6"},
		// The k goes to the view's primary, whoever told the state; what is shorter takes the log's place.
		{"take s 0 0.0.0.0 0 4 012 - 0 2.1.pb7", "1: k 2 0.0.0.0 0 4 1"},
		{"where", "0 4 1 1"},
		{"log", "2.1.pb7"},
		{"value a", ""},
		{"value b", "7"},
		{"session 1", "0 "},
		{"suspect", others("h 2 0.0.0.0 0 5", 0, 1)},
		{"suspect", others("h 2 0.0.0.0 0 6", 0, 1) + "; 0: v 2 0.0.0.0 0 6 4 1 2.1.pb7"},
		{"take s 1 0.0.0.0 0 6 012 - 2 2.1.pb7/2.2.gb/2.3.db", "0: k 2 0.0.0.0 0 6 3"},
		{"where", "0 6 1 2"},
		{"session 2", "2 7"},
		{"suspect", others("h 2 0.0.0.0 0 7", 0, 1) + "; 1: v 2 0.0.0.0 0 7 6 2 2.1.pb7/2.2.gb/2.3.db"},
		{"take s 3 0.0.0.0 0 9 021 210 0 -", "0: k 2 0.0.0.0 0 9 0"},
		{"where", "0 9 1 0"},
		{"log", ""},
		// The groups are those of the epoch.
		{"groups", "[0 1 2] []"},
	})
}

// P11: one that is told that it is the view's primary sends no k, and answers the clients of what is decided now.
func TestP11StateToThePrimary(t *testing.T) {
	play(t, made(t, 0, 5, "01234"), []step{
		{"take q 1 1 pa5", others("p 0 "+noLives+" 0 0 1 1.1.pa5 0", 1, 2, 3, 4)},
		{"take q 2 1 ga", others("p 0 "+noLives+" 0 0 2 2.1.ga 0", 1, 2, 3, 4)},
		{"take k 1 " + noLives + " 0 0 2", ""},
		{"take s 2 " + noLives + " 0 5 01234 - 1 1.1.pa5/2.1.ga", "-1: y 1 1 ok"},
		{"where", "0 5 1 1"},
		// ACKS are 0.
		{"take k 2 " + noLives + " 0 5 2", ""},
		{"where", "0 5 1 1"},
		{"take k 3 " + noLives + " 0 5 2", "-2: y 2 1 5"},
		{"take q 1 2 da", others("p 0 "+noLives+" 0 5 3 1.2.da 2", 1, 2, 3, 4)},
	})
}

// P11: s of an earlier view of this epoch.
func TestP11StateOfAnEarlierView(t *testing.T) {
	play(t, made(t, 1, 4, "012"), []step{
		{"take s 2 0.0.0.0 0 2 012 - 1 1.1.pa5", "2: k 1 0.0.0.0 0 2 1"},
		{"take s 0 0.0.0.0 0 1 012 - 2 1.1.pa5/1.2.pa6", "0: s 1 0.0.0.0 0 2 012 - 1 1.1.pa5"},
		{"take s 3 0.0.0.0 0 0 012 - 0 -", "3: s 1 0.0.0.0 0 2 012 - 1 1.1.pa5"},
		{"where", "0 2 1 1"},
		{"suspect", others("h 1 0.0.0.0 0 3", 0, 2) + "; 0: v 1 0.0.0.0 0 3 2 1 1.1.pa5"},
		{"take s 2 0.0.0.0 0 2 012 - 2 1.1.pa5/1.2.pa6", ""},
		{"where", "0 3 2 1"},
		{"log", "1.1.pa5"},
	})
}

// P11: s of this epoch and view, to one that is Normal.
func TestP11StateOfThisView(t *testing.T) {
	play(t, made(t, 1, 4, "012"), []step{
		{"take p 0 0.0.0.0 0 0 1 1.1.pa5 0", "0: k 1 0.0.0.0 0 0 1"},
		{"take s 0 0.0.0.0 0 0 012 - 1 2.2.pb7", ""},
		{"take s 2 0.0.0.0 0 0 012 - 0 -", ""},
		{"where", "0 0 1 0"},
		{"log", "1.1.pa5"},
		{"take s 3 0.0.0.0 0 0 012 - 1 2.2.pb7", "3: t 1 0.0.0.0 0 0"},
		{"take s 3 0.0.0.0 0 0 012 - 0 -", "3: t 1 0.0.0.0 0 0"},
		{"where", "0 0 1 0"},
		{"take s 2 0.0.0.0 0 0 012 - 1 1.1.pa5/1.2.pa6", "0: k 1 0.0.0.0 0 0 2"},
		{"where", "0 0 1 1"},
		{"value a", "5"},
		{"take s 3 0.0.0.0 0 0 012 - 3 1.1.pa9/1.2.pa6/2.1.ga", "0: k 1 0.0.0.0 0 0 3"},
		{"where", "0 0 1 3"},
		{"session 2", "1 6"},
		{"log", "1.1.pa9/1.2.pa6/2.1.ga"},
	})
	play(t, made(t, 0, 4, "012"), []step{
		{"take q 1 1 pa5", others("p 0 0.0.0.0 0 0 1 1.1.pa5 0", 1, 2)},
		{"take s 1 0.0.0.0 0 0 012 - 2 1.1.pa5/1.2.pa6", ""},
		{"take s 3 0.0.0.0 0 0 012 - 2 1.1.pa5/1.2.pa6", "3: t 0 0.0.0.0 0 0"},
		{"take s 3 0.0.0.0 0 0 012 - 0 -", "3: t 0 0.0.0.0 0 0"},
		{"where", "0 0 1 0"},
		{"log", "1.1.pa5"},
	})
}

// P11: in the epochs behind the first, too; the k of catching up is of the epoch ahead of its turn.
func TestP11StateTurnsTheEpoch(t *testing.T) {
	log := "1.1.pa5/1.2.r123/1.3.r230/1.4.pa6"
	play(t, made(t, 2, 4, "012"), []step{
		{"take s 0 0.0.0.0 0 0 012 - 4 " + log, "0: k 2 0.0.0.0 0 0 4; " + others("s 2 0.0.0.0 1 0 123 012 2 "+log, 1, 3) + "; " + others("t 2 0.0.0.0 1 0", 0, 1)},
		{"where", "1 0 1 2"},
		{"take s 3 0.0.0.0 1 2 123 012 2 1.1.pa5/1.2.r123", "3: k 2 0.0.0.0 1 2 2"},
		{"where", "1 2 1 2"},
		{"take s 1 0.0.0.0 1 2 123 012 2 1.1.pa5/1.2.r123/1.3.pa6", "3: k 2 0.0.0.0 1 2 3"},
		{"take s 1 0.0.0.0 1 1 123 012 2 1.1.pa5/1.2.r123", "1: s 2 0.0.0.0 1 2 123 012 2 1.1.pa5/1.2.r123/1.3.pa6"},
		// To take over carries out what is decided, but turns nothing.
		{"take s 3 0.0.0.0 1 5 123 012 2 1.1.r123/1.2.r123", "3: k 2 0.0.0.0 1 5 2"},
		{"where", "1 5 1 2"},
		{"session 1", "2 ok"},
	})
}

// P11: s of this epoch, to one that is not of its group.
func TestP11StateOutside(t *testing.T) {
	play(t, made(t, 3, 4, "012"), []step{
		{"take s 0 0.0.0.0 0 0 012 - 1 1.1.pa5", ""},
		{"take s 1 0.0.0.0 0 7 012 - 1 1.1.pa5", ""},
		{"where", "0 0 4 0"},
		{"log", ""},
	})
	play(t, made(t, 0, 4, "012"), []step{
		{"take m 1 1 0 123", others("p 0 0.0.0.0 0 0 1 1.1.r123 0", 1, 2)},
		{"take k 1 0.0.0.0 0 0 1", "-1: y 1 1 ok; " + others("s 0 0.0.0.0 1 0 123 012 1 1.1.r123", 1, 2, 3)},
		{"take s 1 0.0.0.0 1 0 123 012 2 1.1.r123/1.2.ga", ""},
		{"take s 1 0.0.0.0 1 3 123 012 2 1.1.r123/1.2.ga", ""},
		{"where", "1 0 5 1"},
		{"log", "1.1.r123"},
	})
}

// P8: whoever has missed an entry is told it: g, and the state in answer.
func TestP8ToldWhatIsMissed(t *testing.T) {
	play(t, made(t, 1, 3, "012"), []step{
		{"take p 0 0.0.0 0 0 2 1.2.pa6 0", "0: g 1 0.0.0 0 0"},
		{"take s 0 0.0.0 0 0 012 - 1 1.1.pa5/1.2.pa6", "0: k 1 0.0.0 0 0 2"},
		{"take c 0 0.0.0 0 0 2", ""},
		{"where", "0 0 1 2"},
		{"take c 0 0.0.0 0 0 3", "0: g 1 0.0.0 0 0"},
		{"take s 0 0.0.0 0 0 012 - 3 1.1.pa5/1.2.pa6/1.3.da", "0: k 1 0.0.0 0 0 3"},
		{"where", "0 0 1 3"},
		{"value a", ""},
	})
}
