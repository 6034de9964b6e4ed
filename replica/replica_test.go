package replica_test

import (
	"math"
	"strings"
	"testing"

	"quorum/api"
	"quorum/replica"
)

// P1: at all numbers and strings; with P3 and P4 for those that are refused.
func TestP1AnyArguments(t *testing.T) {
	numbers := []int{math.MinInt, -1, 0, 1, 2, 3, 4, 5, 6, 7, 8, 999, 1000, math.MaxInt}
	groups := []string{"", "012", "01234", "0123456", "\x00\xff\x80", "ééé", strings.Repeat("0", 1<<20)}
	for _, id := range numbers {
		for _, n := range numbers {
			for _, group := range groups {
				r, err := replica.New(id, n, group)
				if (r == nil) != (err == api.ErrArg) {
					t.Errorf("New(%d, %d, %.9q): %v", id, n, group, err)
				}
			}
			for _, life := range numbers {
				r, err := replica.Restart(id, n, life)
				if (r == nil) != (err == api.ErrArg) {
					t.Errorf("Restart(%d, %d, %d): %v", id, n, life, err)
				}
			}
		}
	}
	r := made(t, 0, 3, "012")
	for _, client := range numbers {
		r.Session(client)
	}
}

// P2: what is handed out is the caller's, and so is the room behind it.
func TestP2HandedOut(t *testing.T) {
	r := made(t, 0, 4, "012")
	r.Take("q 1 1 pa5")
	r.Take("m 2 1 0 013")
	r.Take("k 1 0.0.0.0 0 0 2")
	before := all(r)
	out, log, group, old, lives := r.Beat(), r.Log(), r.Group(), r.Old(), r.Lives()
	if len(out) == 0 || len(log) != 2 || len(group) != 3 || len(old) != 3 || len(lives) != 4 {
		t.Fatalf("%v %v %v %v %v", out, log, group, old, lives)
	}
	for i := range out {
		out[i] = api.Out{To: 77, Text: "x"}
	}
	for i := range log {
		log[i] = api.Entry{Client: 77}
	}
	for _, list := range [][]int{group, old, lives} {
		for i := range list[:cap(list)] {
			list[:cap(list)][i] = 77
		}
	}
	log = append(log, api.Entry{Client: 78})
	if all(r) != before {
		t.Errorf("changed by the caller:\n%s\n%s", before, all(r))
	}
	r.Take("q 1 2 ga")
	r.Take("q 1 3 gb")
	r.Beat()
	for i := range out[:cap(out)] {
		if i < len(out) && out[i].To != 77 || i >= len(out) && out[:cap(out)][i] != (api.Out{}) {
			t.Errorf("what was handed out is written: %v", out[:cap(out)])
		}
	}
	if log[0].Client != 77 || log[2].Client != 78 || lives[3] != 77 {
		t.Errorf("what was handed out is written: %v %v", log, lives)
	}
}

func TestP2NothingIsNil(t *testing.T) {
	r := restarted(t, 1, 3, 4)
	if r.Log() != nil || r.Group() != nil || r.Old() != nil || r.Take("q 1 1 ga") != nil || r.Take("") != nil || r.Suspect() != nil {
		t.Error("Restart")
	}
	r = made(t, 1, 3, "012")
	if r.Log() != nil || r.Old() != nil || r.Beat() != nil || r.Take("c 0 0.0.0 0 0 0") != nil || r.Take("x") != nil {
		t.Error("New")
	}
}

// P2: replicas know nothing of each other but by messages; the order of what is sent is the group's.
func TestP2Order(t *testing.T) {
	r := made(t, 4, 7, "40613")
	other := made(t, 4, 7, "40613")
	play(t, r, []step{
		{"take q 1 1 pa5", "0: p 4 0.0.0.0.0.0.0 0 0 1 1.1.pa5 0; 6: p 4 0.0.0.0.0.0.0 0 0 1 1.1.pa5 0; 1: p 4 0.0.0.0.0.0.0 0 0 1 1.1.pa5 0; 3: p 4 0.0.0.0.0.0.0 0 0 1 1.1.pa5 0"},
		{"take k 0 0.0.0.0.0.0.0 0 0 1", ""},
		{"take k 3 0.0.0.0.0.0.0 0 0 1", "-1: y 1 1 ok"},
		{"beat", "0: c 4 0.0.0.0.0.0.0 0 0 1; 6: c 4 0.0.0.0.0.0.0 0 0 1; 1: c 4 0.0.0.0.0.0.0 0 0 1; 3: c 4 0.0.0.0.0.0.0 0 0 1"},
	})
	if fresh := made(t, 4, 7, "40613"); all(other) != all(fresh) {
		t.Errorf("one replica knows of another: %s", all(other))
	}
	play(t, made(t, 2, 3, "201"), []step{
		{"take q 3 7 gz", "0: p 2 0.0.0 0 0 1 3.7.gz 0; 1: p 2 0.0.0 0 0 1 3.7.gz 0"},
	})
	play(t, made(t, 0, 3, "201"), []step{
		{"take q 3 7 gz", ""},
		{"take p 2 0.0.0 0 0 1 3.7.gz 0", "2: k 0 0.0.0 0 0 1"},
	})
}

func TestP3New(t *testing.T) {
	for _, c := range []struct {
		id     int
		n      int
		group  string
		status int
	}{
		{0, 3, "012", api.Normal}, {2, 3, "012", api.Normal}, {0, 3, "210", api.Normal}, {6, 7, "65432", api.Normal}, {0, 5, "01234", api.Normal},
		{3, 4, "012", api.Away}, {0, 4, "123", api.Away}, {5, 7, "01234", api.Away}, {1, 7, "642", api.Away},
		{0, 2, "012", 0}, {0, 2, "01", 0}, {0, 0, "", 0}, {0, 8, "012", 0}, {3, 3, "012", 0}, {-1, 3, "012", 0}, {0, -3, "012", 0},
		{0, 3, "", 0}, {0, 3, "0", 0}, {0, 3, "01", 0}, {0, 4, "0123", 0}, {0, 7, "012345", 0}, {0, 7, "0123456", 0},
		{0, 3, "013", 0}, {0, 3, "011", 0}, {0, 3, "001", 0}, {0, 5, "01230", 0}, {0, 3, "01234", 0}, {0, 4, "01234", 0}, {0, 7, "789", 0},
		{0, 3, "0 1 2", 0}, {0, 3, "abc", 0}, {0, 3, "0.1", 0}, {0, 3, " 012", 0}, {0, 3, "012\x00", 0},
	} {
		r, err := replica.New(c.id, c.n, c.group)
		if c.status == 0 {
			if r != nil || err != api.ErrArg {
				t.Errorf("New(%d, %d, %q): %v, %v", c.id, c.n, c.group, r, err)
			}
			continue
		}
		if r == nil || err != api.OK {
			t.Errorf("New(%d, %d, %q): %v, %v", c.id, c.n, c.group, r, err)
			continue
		}
		epoch, view, status, decided := r.Where()
		group := ""
		for _, member := range r.Group() {
			group += string(rune('0' + member))
		}
		if epoch != 0 || view != 0 || status != c.status || decided != 0 || group != c.group || r.Old() != nil || r.Log() != nil {
			t.Errorf("New(%d, %d, %q): %s", c.id, c.n, c.group, all(r))
		}
		isEmpty(t, r, c.n, c.id, 0)
	}
}

func TestP4Restart(t *testing.T) {
	for _, c := range [][3]int{{0, 3, 1}, {2, 3, 999}, {6, 7, 5}} {
		r := restarted(t, c[0], c[1], c[2])
		epoch, view, status, decided := r.Where()
		if epoch != 0 || view != 0 || status != api.Recover || decided != 0 || r.Group() != nil || r.Old() != nil || r.Log() != nil {
			t.Errorf("Restart(%v): %s", c, all(r))
		}
		isEmpty(t, r, c[1], c[0], c[2])
	}
	for _, c := range [][3]int{{0, 3, 0}, {0, 3, -1}, {0, 3, 1000}, {3, 3, 1}, {-1, 3, 1}, {0, 2, 1}, {0, 8, 1}, {7, 7, 1}} {
		if r, err := replica.Restart(c[0], c[1], c[2]); r != nil || err != api.ErrArg {
			t.Errorf("Restart(%v): %v, %v", c, r, err)
		}
	}
}

// isEmpty: no value, no session, and no life known but, of id, that one.
func isEmpty(t *testing.T, r *replica.Replica, n int, id int, life int) {
	t.Helper()
	if len(r.Lives()) != n {
		t.Errorf("lives: %v", r.Lives())
	}
	for i, known := range r.Lives() {
		if i == id && known != life || i != id && known != 0 {
			t.Errorf("lives: %v", r.Lives())
		}
	}
	for key := 0; key < 256; key++ {
		if r.Value(byte(key)) != "" {
			t.Errorf("value of %d: %q", key, r.Value(byte(key)))
		}
	}
	for client := -1; client <= 10; client++ {
		if num, result := r.Session(client); num != 0 || result != "" {
			t.Errorf("session of %d: %d %q", client, num, result)
		}
	}
}

// P5: values and sessions are as far as is decided here, not as far as the log goes.
func TestP5Looks(t *testing.T) {
	play(t, made(t, 1, 3, "012"), []step{
		{"take p 0 0.0.0 0 0 1 1.5.pz9 0", "0: k 1 0.0.0 0 0 1"},
		{"take p 0 0.0.0 0 0 2 9.6.gz 0", "0: k 1 0.0.0 0 0 2"},
		{"where", "0 0 1 0"},
		{"log", "1.5.pz9/9.6.gz"},
		{"value z", ""},
		{"session 1", "0 "},
		{"take c 0 0.0.0 0 0 1", ""},
		{"where", "0 0 1 1"},
		{"value z", "9"},
		{"value Z", ""},
		{"value {", ""},
		{"value `", ""},
		{"session 1", "5 ok"},
		{"session 9", "0 "},
		{"take c 0 0.0.0 0 0 2", ""},
		{"session 9", "6 9"},
		{"session 0", "0 "},
		{"session 10", "0 "},
		{"session -1", "0 "},
	})
}

// The examples of the document, but for 4 and 5, which are in TestP9Examples, and 6, which is in TestP10Example.
func TestExamples(t *testing.T) {
	play(t, made(t, 0, 3, "012"), []step{
		{"where", "0 0 1 0"},
		{"take q 1 1 pa5", "1: p 0 0.0.0 0 0 1 1.1.pa5 0; 2: p 0 0.0.0 0 0 1 1.1.pa5 0"},
		{"take k 1 0.0.0 0 0 1", "-1: y 1 1 ok"},
		{"value a", "5"},
		{"take q 1 1 pa5", "-1: y 1 1 ok"},
	})
	play(t, made(t, 1, 3, "012"), []step{
		{"take p 0 0.0.0 0 0 1 1.1.pa5 0", "0: k 1 0.0.0 0 0 1"},
		{"take p 0 0.0.0 0 0 3 1.3.pa5 0", "0: g 1 0.0.0 0 0"},
		{"take p 0 0.0.0 0 0 2 2.1.da 1", "0: k 1 0.0.0 0 0 2"},
		{"where", "0 0 1 1"},
	})
	play(t, made(t, 3, 4, "012"), []step{
		{"where", "0 0 4 0"},
		{"take q 1 1 ga", ""},
		{"take m 1 1 0 012", ""},
		{"take p 0 0.0.0.0 0 0 1 1.1.ga 0", ""},
		{"take g 0 0.0.0.0 0 5", ""},
		{"take h 0 0.0.0.0 0 5", ""},
		{"take p 0 0.0.0.0 1 0 1 1.1.ga 0", "0: g 3 0.0.0.0 0 0"},
		{"beat", ""},
		{"suspect", ""},
	})
	play(t, made(t, 0, 3, "012"), []step{
		{"take q 1 1 pa5", "1: p 0 0.0.0 0 0 1 1.1.pa5 0; 2: p 0 0.0.0 0 0 1 1.1.pa5 0"},
		{"take r 1 0.3.0 0 0", "1: a 0 0.3.0 0 0 3 012 - 0 1.1.pa5"},
		{"take k 1 0.2.0 0 0 1", ""},
		{"where", "0 0 1 0"},
	})
	play(t, made(t, 0, 4, "012"), []step{
		{"take m 1 1 0 123", "1: p 0 0.0.0.0 0 0 1 1.1.r123 0; 2: p 0 0.0.0.0 0 0 1 1.1.r123 0"},
		{"take k 1 0.0.0.0 0 0 1", "-1: y 1 1 ok; 1: s 0 0.0.0.0 1 0 123 012 1 1.1.r123; 2: s 0 0.0.0.0 1 0 123 012 1 1.1.r123; 3: s 0 0.0.0.0 1 0 123 012 1 1.1.r123"},
		{"where", "1 0 5 1"},
		{"take t 1 0.0.0.0 1 0", ""},
		{"take t 3 0.0.0.0 1 0", ""},
		{"where", "1 0 4 1"},
	})
	play(t, made(t, 1, 4, "012"), []step{
		{"take p 0 0.0.0.0 0 0 1 1.1.r123 0", "0: k 1 0.0.0.0 0 0 1"},
		{"take c 0 0.0.0.0 0 0 1", "2: s 1 0.0.0.0 1 0 123 012 1 1.1.r123; 3: s 1 0.0.0.0 1 0 123 012 1 1.1.r123; 0: t 1 0.0.0.0 1 0; 2: t 1 0.0.0.0 1 0"},
		{"where", "1 0 1 1"},
		{"groups", "[1 2 3] [0 1 2]"},
	})
	play(t, made(t, 3, 4, "012"), []step{
		{"take s 1 0.0.0.0 1 0 123 012 1 1.1.r123", "0: t 3 0.0.0.0 1 0; 1: t 3 0.0.0.0 1 0; 2: t 3 0.0.0.0 1 0; 1: k 3 0.0.0.0 1 0 1"},
	})
	play(t, made(t, 0, 4, "012"), []step{
		{"take m 1 1 1 123", ""},
		{"take m 1 1 0 12", "-1: y 1 1 bad"},
	})
}
