package replica_test

import (
	"fmt"
	"testing"

	"quorum/api"
)

func TestP7OnlyTheNormalPrimary(t *testing.T) {
	play(t, made(t, 1, 3, "012"), []step{{"take q 1 1 pa5", ""}, {"take m 1 1 0 012", ""}, {"take m 1 1 0 12", ""}, {"log", ""}})
	play(t, made(t, 3, 4, "012"), []step{{"take q 1 1 pa5", ""}, {"take m 1 1 0 12", ""}, {"log", ""}})
	play(t, restarted(t, 0, 3, 1), []step{{"take q 1 1 pa5", ""}, {"take m 1 1 0 12", ""}, {"log", ""}})
	play(t, made(t, 2, 3, "012"), []step{
		{"suspect", others("h 2 0.0.0 0 1", 0, 1) + "; 1: v 2 0.0.0 0 1 0 0 -"},
		{"suspect", others("h 2 0.0.0 0 2", 0, 1)},
		{"take q 1 1 pa5", ""},
		{"log", ""},
	})
}

// P7: NUM below, equal to and above the client's last entry in the log, which is not what is decided.
func TestP7Numbers(t *testing.T) {
	play(t, made(t, 0, 3, "012"), []step{
		{"take q 1 5 pa5", others("p 0 0.0.0 0 0 1 1.5.pa5 0", 1, 2)},
		{"take q 1 5 pa5", ""},
		{"take q 1 4 pa5", ""},
		{"take q 1 6 ga", others("p 0 0.0.0 0 0 2 1.6.ga 0", 1, 2)},
		{"take q 2 1 ga", others("p 0 0.0.0 0 0 3 2.1.ga 0", 1, 2)},
		{"take k 1 0.0.0 0 0 1", "-1: y 1 5 ok"},
		{"take q 1 5 pa5", ""},
		{"take q 1 6 ga", ""},
		{"take k 1 0.0.0 0 0 3", "-1: y 1 6 5; -2: y 2 1 5"},
		{"take q 1 6 pz9", "-1: y 1 6 5"},
		{"take m 1 6 9 0", "-1: y 1 6 5"},
		{"take q 1 5 pa5", ""},
		{"take q 2 1 ga", "-2: y 2 1 5"},
		{"take q 1 999 gb", others("p 0 0.0.0 0 0 4 1.999.gb 3", 1, 2)},
		{"log", "1.5.pa5/1.6.ga/2.1.ga/1.999.gb"},
	})
}

func TestP7FullLog(t *testing.T) {
	r := made(t, 0, 3, "012")
	for num := 1; num <= api.MaxLog; num++ {
		play(t, r, []step{{fmt.Sprintf("take q 1 %d pa5", num), others(fmt.Sprintf("p 0 0.0.0 0 0 %d 1.%d.pa5 0", num, num), 1, 2)}})
	}
	play(t, r, []step{
		{"take q 1 11 pa5", ""},
		{"take q 2 1 pa5", ""},
		{"take m 2 1 0 012", ""},
		{"take m 2 1 0 01", "-2: y 2 1 bad"},
		{"take k 2 0.0.0 0 0 9", "-1: y 1 1 ok; -1: y 1 2 ok; -1: y 1 3 ok; -1: y 1 4 ok; -1: y 1 5 ok; -1: y 1 6 ok; -1: y 1 7 ok; -1: y 1 8 ok; -1: y 1 9 ok"},
		{"take q 1 10 pa5", ""},
		{"take q 1 11 pa5", ""},
		{"take k 2 0.0.0 0 0 10", "-1: y 1 10 ok"},
		{"take q 1 10 pa5", "-1: y 1 10 ok"},
	})
	if len(r.Log()) != api.MaxLog {
		t.Errorf("%v", r.Log())
	}
}

func TestP7Groups(t *testing.T) {
	play(t, made(t, 1, 5, "120"), []step{
		{"take m 1 1 1 12", ""},
		{"take m 1 1 999 012", ""},
		{"take m 1 1 0 12", "-1: y 1 1 bad"},
		{"take m 1 1 0 1", "-1: y 1 1 bad"},
		{"take m 1 1 0 01234012", "-1: y 1 1 bad"},
		{"take m 1 1 0 0123", "-1: y 1 1 bad"},
		{"take m 1 1 0 015", "-1: y 1 1 bad"},
		{"take m 1 1 0 011", "-1: y 1 1 bad"},
		{"session 1", "0 "},
		{"log", ""},
		{"take m 1 1 0 13024", others("p 1 0.0.0.0.0 0 0 1 1.1.r13024 0", 2, 0)},
		{"take m 1 1 0 12", ""},
		// CLOSING: nothing joins any more, but what is bad is bad.
		{"take q 2 1 ga", ""},
		{"take m 2 1 0 012", ""},
		{"take m 2 1 0 01", "-2: y 2 1 bad"},
		{"log", "1.1.r13024"},
		{"take k 0 0.0.0.0.0 0 0 1", "-1: y 1 1 ok; " + others("s 1 0.0.0.0.0 1 0 13024 120 1 1.1.r13024", 3, 0, 2, 4) + "; " + others("t 1 0.0.0.0.0 1 0", 2, 0)},
		{"where", "1 0 1 1"},
		{"take m 1 1 0 012", "-1: y 1 1 ok"},
		{"take m 1 2 0 012", "-1: y 1 2 bad"},
		{"take m 1 2 2 012", ""},
		{"take q 2 1 ga", others("p 1 0.0.0.0.0 1 0 2 2.1.ga 1", 3, 0, 2, 4)},
		{"take k 4 0.0.0.0.0 1 0 2", ""},
		{"take k 3 0.0.0.0.0 1 0 2", "-2: y 2 1 -"},
		{"take m 1 2 1 120", others("p 1 0.0.0.0.0 1 0 3 1.2.r120 2", 3, 0, 2, 4)},
	})
}
