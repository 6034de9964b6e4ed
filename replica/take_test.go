package replica_test

import (
	"math/rand"
	"strconv"
	"strings"
	"testing"

	"quorum/api"
	"quorum/message"
	"quorum/replica"
)

// P6: what is no message changes nothing and sends nothing.
func TestP6NoMessage(t *testing.T) {
	r := made(t, 0, 3, "012")
	r.Take("q 1 1 pa5")
	before := all(r)
	for _, text := range []string{
		"", " ", "q 1 2 pa", "q 1 2 pa5 ", " q 1 2 pa5", "q  1 2 pa5", "q 1 02 pa5", "q 10 2 pa5", "q 1 1000 pa5", "y 1 1 ok", "z 1 2 pa5",
		"k 1 0.0.0 0 0", "k 1 0.0 0 0 1", "k 1 0.9.0.0 0 0 1", "k 3 0.9.9 0 0 1", "k 1 0.9.9 11 0 1", "k 1 0.9.9 0 0 11", "k 1 0.9.9 0 0 1 1", "k 1 0.9.9 0 1000 1", "k 1 0.9.1000 0 0 1",
		"s 1 0.9.9 0 0 012 - 1 -", "v 1 0.9.9 0 1 0 1 -", "p 1 0.9.9 0 0 0 1.1.pa5 0", "h 1 0.9.9 0 0 0", "r 1 0.9.9 0", "K 1 0.0.0 0 0 1",
		"g 1 0.9.9 0 0" + strings.Repeat(" ", api.MaxText), strings.Repeat("k 1 0.0.0 0 0 1 ", 1<<16),
	} {
		if out := r.Take(text); out != nil || all(r) != before {
			t.Errorf("%.60q: %v, %s", text, out, all(r))
		}
	}
}

// P6: lives: an earlier one is over, a later one is learned, but never the replica's own.
func TestP6Lives(t *testing.T) {
	play(t, made(t, 0, 3, "012"), []step{
		{"take c 1 7.2.3 0 0 0", ""},
		{"lives", "[0 2 3]"},
		{"take g 1 9.1.9 0 0", ""},
		{"lives", "[0 2 3]"},
		{"take g 1 0.2.1 0 0", "1: s 0 0.2.3 0 0 012 - 0 -"},
		{"lives", "[0 2 3]"},
		{"take g 0 0.9.9 0 0", ""},
		{"lives", "[0 2 3]"},
		{"take g 1 0.999.4 0 0", "1: s 0 0.999.4 0 0 012 - 0 -"},
		{"lives", "[0 999 4]"},
		{"take g 2 0.0.3 0 0", ""},
		{"take g 2 0.0.4 0 0", "2: s 0 0.999.4 0 0 012 - 0 -"},
		{"take q 1 1 ga", "1: p 0 0.999.4 0 0 1 1.1.ga 0; 2: p 0 0.999.4 0 0 1 1.1.ga 0"},
	})
	// Whoever sends it, of whatever epoch, in whatever status.
	play(t, made(t, 3, 4, "012"), []step{
		{"take k 1 0.5.0.0 0 0 1", ""},
		{"lives", "[0 5 0 0]"},
		{"take s 2 4.5.6.7 0 0 012 - 0 -", ""},
		{"lives", "[4 5 6 0]"},
	})
	play(t, restarted(t, 1, 3, 4), []step{
		{"take k 0 1.5.3 0 0 1", ""},
		{"lives", "[1 4 3]"},
		{"take k 0 0.5.9 0 0 1", ""},
		{"lives", "[1 4 3]"},
		{"where", "0 0 3 0"},
	})
}

// P6: the ACKS of one that has begun a later life are 0, ahead of what the message itself says.
func TestP6AcksOfALifeThatIsOver(t *testing.T) {
	play(t, made(t, 0, 5, "01234"), []step{
		{"take q 1 1 pa5", others("p 0 0.0.0.0.0 0 0 1 1.1.pa5 0", 1, 2, 3, 4)},
		{"take k 1 0.0.0.0.0 0 0 1", ""},
		{"take k 2 0.1.0.0.0 0 0 1", ""},
		{"where", "0 0 1 0"},
		{"take k 1 0.0.0.0.0 0 0 1", ""},
		{"where", "0 0 1 0"},
		{"take k 1 0.1.0.0.0 0 0 1", "-1: y 1 1 ok"},
	})
	play(t, made(t, 0, 5, "01234"), []step{
		{"take q 1 1 pa5", others("p 0 0.0.0.0.0 0 0 1 1.1.pa5 0", 1, 2, 3, 4)},
		{"take k 1 0.0.0.0.0 0 0 1", ""},
		{"take k 2 0.0.0.0.0 0 0 0", ""},
		{"take k 2 0.0.1.0.0 0 0 1", "-1: y 1 1 ok"},
	})
}

// others is one text to several replicas.
func others(text string, to ...int) string {
	var texts []string
	for _, id := range to {
		texts = append(texts, strconv.Itoa(id)+": "+text)
	}
	return strings.Join(texts, "; ")
}

// P6: what one that was made by Restart does not know it does not tell.
func TestP6Recover(t *testing.T) {
	play(t, restarted(t, 0, 3, 1), []step{
		{"take q 1 1 pa5", ""},
		{"take m 1 1 0 012", ""},
		{"take g 1 1.0.0 0 0", ""},
		{"take h 1 1.0.0 0 1", ""},
		{"take r 1 1.2.0 0 0", ""},
		{"take p 1 1.2.0 5 1 1 1.1.pa5 1", ""},
		{"take s 1 1.2.0 0 1 012 - 1 1.1.pa5", ""},
		{"suspect", ""},
		{"where", "0 0 3 0"},
		{"log", ""},
	})
}

// P6: r is answered by whoever is Normal, whatever its epoch and view, and of anybody.
func TestP6AnswersR(t *testing.T) {
	play(t, made(t, 1, 4, "012"), []step{
		{"take p 0 0.0.0.0 0 0 1 1.1.pa5 1", "0: k 1 0.0.0.0 0 0 1"},
		{"take r 3 0.0.0.999 7 8", "3: a 1 0.0.0.999 0 0 999 012 - 1 1.1.pa5"},
		{"take r 0 1.0.0.999 0 0", "0: a 1 1.0.0.999 0 0 1 012 - 1 1.1.pa5"},
		{"take a 0 1.0.0.999 0 0 1 012 - 0 -", ""},
		{"take a 0 1.0.0.999 0 5 1 012 - 0 -", ""},
		{"take a 0 1.0.0.999 5 0 1 012 - 0 -", ""},
		{"take t 0 1.0.0.999 0 5", ""},
		{"take t 0 1.0.0.999 5 0", ""},
		{"where", "0 0 1 1"},
		{"suspect", "0: h 1 1.0.0.999 0 1; 2: h 1 1.0.0.999 0 1"},
		{"take r 0 1.0.0.999 0 0", ""},
	})
	play(t, made(t, 3, 4, "012"), []step{{"take r 1 0.1.0.0 3 0", ""}, {"lives", "[0 1 0 0]"}})
	play(t, made(t, 1, 4, "012"), []step{
		{"take p 0 0.0.0.0 0 0 1 1.1.r123 1", "0: k 1 0.0.0.0 0 0 1; " + others("s 1 0.0.0.0 1 0 123 012 1 1.1.r123", 2, 3) + "; " + others("t 1 0.0.0.0 1 0", 0, 2)},
		{"take q 2 1 pa5", others("p 1 0.0.0.0 1 0 2 2.1.pa5 1", 2, 3)},
		{"take r 0 4.0.0.0 0 0", "0: a 1 4.0.0.0 1 0 4 123 012 1 1.1.r123/2.1.pa5"},
		{"take r 0 3.0.0.0 0 0", ""},
		{"take r 0 4.0.0.0 0 0", "0: a 1 4.0.0.0 1 0 4 123 012 1 1.1.r123/2.1.pa5"},
		{"take r 1 4.9.0.0 0 0", ""},
		{"lives", "[4 0 0 0]"},
	})
}

// P6: messages of other epochs and views, to one that is Normal.
func TestP6OtherEpochsAndViews(t *testing.T) {
	r := made(t, 1, 4, "012")
	play(t, r, []step{
		{"take p 0 0.0.0.0 0 1 1 1.1.pa5 0", "0: g 1 0.0.0.0 0 0"},
		{"take c 3 0.0.0.0 0 999 0", "3: g 1 0.0.0.0 0 0"},
		{"take g 2 0.0.0.0 0 1", "2: g 1 0.0.0.0 0 0"},
		{"take k 2 0.0.0.0 10 0 0", "2: g 1 0.0.0.0 0 0"},
		{"take h 2 0.0.0.0 1 0", "2: g 1 0.0.0.0 0 0"},
		{"take v 2 0.0.0.0 1 7 0 0 -", "2: g 1 0.0.0.0 0 0"},
		{"where", "0 0 1 0"},
		{"log", ""},
		{"take p 0 0.0.0.0 0 0 1 1.1.pa5 0", "0: k 1 0.0.0.0 0 0 1"},
		{"take p 0 0.0.0.0 0 0 2 1.2.r123 0", "0: k 1 0.0.0.0 0 0 2"},
		{"take c 0 0.0.0.0 0 0 2", others("s 1 0.0.0.0 1 0 123 012 2 1.1.pa5/1.2.r123", 2, 3) + "; " + others("t 1 0.0.0.0 1 0", 0, 2)},
	})
	state := "s 1 0.0.0.0 1 0 123 012 2 1.1.pa5/1.2.r123"
	for _, text := range []string{"p 0 0.0.0.0 0 0 1 1.1.pa5 0", "k 2 0.0.0.0 0 9 1", "c 0 0.0.0.0 0 999 0", "h 0 0.0.0.0 0 3", "v 0 0.0.0.0 0 3 0 0 -", "g 0 0.0.0.0 0 0"} {
		play(t, r, []step{{"take " + text, text[2:3] + ": " + state}})
	}
}

// P6: messages of other epochs and views, to one in status Change.
func TestP6InChange(t *testing.T) {
	r := made(t, 1, 4, "012")
	play(t, r, []step{
		{"take p 0 0.0.0.0 0 0 1 1.1.pa5 0", "0: k 1 0.0.0.0 0 0 1"},
		{"take p 0 0.0.0.0 0 0 2 1.2.r120 2", "0: k 1 0.0.0.0 0 0 2; " + others("s 1 0.0.0.0 1 0 120 012 2 1.1.pa5/1.2.r120", 2, 0) + "; " + others("t 1 0.0.0.0 1 0", 0, 2)},
		{"take q 2 1 pb6", others("p 1 0.0.0.0 1 0 3 2.1.pb6 2", 2, 0)},
		{"take k 0 0.0.0.0 1 0 3", "-2: y 2 1 ok"},
		{"suspect", others("h 1 0.0.0.0 1 1", 2, 0) + "; 2: v 1 0.0.0.0 1 1 0 3 1.1.pa5/1.2.r120/2.1.pb6"},
		{"suspect", others("h 1 0.0.0.0 1 2", 2, 0) + "; 0: v 1 0.0.0.0 1 2 0 3 1.1.pa5/1.2.r120/2.1.pb6"},
		{"take q 2 2 pb7", ""},
		{"take q 2 1 pb6", ""},
		{"take h 2 0.0.0.0 1 1", "2: h 1 0.0.0.0 1 2"},
		{"take v 0 0.0.0.0 1 0 0 0 -", "0: h 1 0.0.0.0 1 2"},
		{"take h 3 0.0.0.0 1 1", ""},
		{"take k 2 0.0.0.0 1 0 3", ""},
		{"take g 2 0.0.0.0 1 1", ""},
		{"take g 2 0.0.0.0 1 2", ""},
		{"take c 2 0.0.0.0 1 3 0", "2: g 1 0.0.0.0 1 2"},
		{"take k 2 0.0.0.0 2 0 0", "2: g 1 0.0.0.0 1 2"},
		{"take h 3 0.0.0.0 2 0", "3: g 1 0.0.0.0 1 2"},
		{"take k 3 0.0.0.0 0 5 0", "3: s 1 0.0.0.0 1 0 120 012 2 1.1.pa5/1.2.r120"},
		{"take h 0 0.0.0.0 0 0", "0: s 1 0.0.0.0 1 0 120 012 2 1.1.pa5/1.2.r120"},
		{"where", "1 2 2 3"},
	})
}

// P6: the BEGINNING goes up to the entry that began the epoch, be there others with r ahead of it; with fewer of them it is the whole log.
func TestP6Beginning(t *testing.T) {
	play(t, made(t, 1, 3, "012"), []step{
		{"take p 0 0.0.0 0 0 1 1.1.r120 1", "0: k 1 0.0.0 0 0 1; " + others("s 1 0.0.0 1 0 120 012 1 1.1.r120", 2, 0) + "; " + others("t 1 0.0.0 1 0", 0, 2)},
		{"take m 1 2 1 012", others("p 1 0.0.0 1 0 2 1.2.r012 1", 2, 0)},
		{"take k 0 0.0.0 1 0 2", "-1: y 1 2 ok; " + others("s 1 0.0.0 2 0 012 120 2 1.1.r120/1.2.r012", 0, 2) + "; " + others("t 1 0.0.0 2 0", 2, 0)},
		{"take p 0 0.0.0 2 0 3 1.3.pa5 2", "0: k 1 0.0.0 2 0 3"},
		{"suspect", others("h 1 0.0.0 2 1", 0, 2)},
		{"take k 2 0.0.0 1 0 0", "2: s 1 0.0.0 2 0 012 120 2 1.1.r120/1.2.r012"},
		{"take h 0 0.0.0 0 9", "0: s 1 0.0.0 2 0 012 120 2 1.1.r120/1.2.r012"},
	})
	play(t, made(t, 1, 3, "012"), []step{
		{"take p 0 0.0.0 0 0 1 1.1.r120 1", "0: k 1 0.0.0 0 0 1; " + others("s 1 0.0.0 1 0 120 012 1 1.1.r120", 2, 0) + "; " + others("t 1 0.0.0 1 0", 0, 2)},
		{"take s 2 0.0.0 1 1 120 012 0 1.2.pa5/1.3.pa6", "2: k 1 0.0.0 1 1 2"},
		{"where", "1 1 1 1"},
		{"suspect", others("h 1 0.0.0 1 2", 2, 0) + "; 0: v 1 0.0.0 1 2 1 1 1.2.pa5/1.3.pa6"},
		{"take k 2 0.0.0 0 0 0", "2: s 1 0.0.0 1 0 120 012 2 1.2.pa5/1.3.pa6"},
		{"where", "1 2 2 1"},
	})
}

// P6: to one in status Leave.
func TestP6InLeave(t *testing.T) {
	play(t, made(t, 0, 5, "012"), []step{
		{"take m 1 1 0 123", others("p 0 0.0.0.0.0 0 0 1 1.1.r123 0", 1, 2)},
		{"take k 2 0.0.0.0.0 0 0 1", "-1: y 1 1 ok; " + others("s 0 0.0.0.0.0 1 0 123 012 1 1.1.r123", 1, 2, 3)},
		{"where", "1 0 5 1"},
		{"take g 3 0.0.0.0.0 0 0", "3: s 0 0.0.0.0.0 1 0 123 012 1 1.1.r123"},
		{"take g 1 0.0.0.0.0 1 7", "1: s 0 0.0.0.0.0 1 0 123 012 1 1.1.r123"},
		{"take g 4 0.0.0.0.0 0 0", ""},
		{"take g 1 0.0.0.0.0 2 0", "1: g 0 0.0.0.0.0 1 0"},
		{"take k 4 0.0.0.0.0 2 0 0", "4: g 0 0.0.0.0.0 1 0"},
		{"take k 1 0.0.0.0.0 1 0 1", ""},
		{"take r 1 0.1.0.0.0 1 0", ""},
		{"take q 1 1 ga", ""},
		{"take q 1 2 ga", ""},
		{"beat", others("s 0 0.1.0.0.0 1 0 123 012 1 1.1.r123", 1, 2, 3)},
		{"suspect", ""},
		{"where", "1 0 5 1"},
	})
}

// P1: texts that are nearly messages, in any order, with ticks between; what is sent is a message each, and no look panics.
func TestP1AnyTexts(t *testing.T) {
	random := rand.New(rand.NewSource(1))
	for round := 0; round < 300; round++ {
		n := 3 + random.Intn(5)
		id := random.Intn(n)
		r, _ := replica.New(id, n, []string{"012", "210", "120"}[random.Intn(3)])
		if random.Intn(4) == 0 {
			r, _ = replica.Restart(id, n, 1+random.Intn(2))
		}
		for i := 0; i < 120; i++ {
			var out []api.Out
			switch random.Intn(20) {
			case 0:
				out = r.Beat()
			case 1:
				out = r.Suspect()
			default:
				out = r.Take(anyText(random, n))
			}
			all(r)
			isSane(t, r, out, n)
		}
	}
}

func isSane(t *testing.T, r *replica.Replica, out []api.Out, n int) {
	t.Helper()
	epoch, view, status, decided := r.Where()
	if epoch < 0 || epoch > api.MaxLog || view < 0 || view > api.MaxNum || status < api.Normal || status > api.Leave || decided < 0 || decided > len(r.Log()) || len(r.Log()) > api.MaxLog {
		t.Fatalf("%s", all(r))
	}
	for _, o := range out {
		if o.To >= n || o.To < -api.MaxClients || o.Text == "" || len(o.Text) > api.MaxText {
			t.Fatalf("sent: %v", o)
		}
		// (To r of a life that never was the answer's LIFE is that, which is none.)
		if _, ok := message.Read(o.Text, n); o.To >= 0 && !ok && o.Text[0] != 'a' {
			t.Fatalf("sent: %v", o)
		}
	}
}

func anyText(random *rand.Rand, n int) string {
	lives := strings.Repeat("0.", n-1) + "0"
	if random.Intn(10) == 0 {
		lives = strings.Repeat("0.", n-1) + strconv.Itoa(random.Intn(5))
	}
	number := func(below int) string { return strconv.Itoa(random.Intn(below)) }
	entry := func() string {
		return number(10) + "." + number(12) + "." + []string{"ga", "pa5", "da", "ca57", "r012", "r120", "r21"}[random.Intn(7)]
	}
	log := []string{"-", entry(), entry() + "/" + entry()}[random.Intn(3)]
	group := func() string { return []string{"012", "120", "01" + number(n+1), "12" + number(n+1)}[random.Intn(4)] }
	head := " " + number(n+1) + " " + lives + " " + number(3) + " " + number(3)
	text := []string{
		"q " + number(11) + " " + number(12) + " pa5", "m " + number(11) + " " + number(12) + " " + number(3) + " 01" + number(n+1),
		"p" + head + " " + number(12) + " " + entry() + " " + number(12), "k" + head + " " + number(12), "c" + head + " " + number(4),
		"h" + head, "g" + head, "r" + head, "t" + head, "v" + head + " 0 " + number(3) + " " + log,
		"s" + head + " " + group() + " " + []string{"-", group()}[random.Intn(2)] + " " + number(3) + " " + log, "a" + head + " 1 " + group() + " 210 " + number(3) + " " + log,
	}[random.Intn(12)]
	if random.Intn(4) == 0 {
		at := random.Intn(len(text))
		text = text[:at] + string([]byte{byte(random.Intn(256))}) + text[at+random.Intn(2):]
	}
	return text
}
