package replica_test

import (
	"fmt"
	"strconv"
	"strings"
	"testing"

	"quorum/api"
	"quorum/replica"
)

// step is a line that is played on a replica, and what it answers.
type step struct {
	line string
	want string
}

// sends tells what is sent, as "to: text" with "; " between.
func sends(out []api.Out) string {
	if out != nil && len(out) == 0 {
		return "(a list of nothing that is not nil)"
	}
	var texts []string
	for _, o := range out {
		texts = append(texts, fmt.Sprintf("%d: %s", o.To, o.Text))
	}
	return strings.Join(texts, "; ")
}

func logOf(r *replica.Replica) string {
	var texts []string
	for _, e := range r.Log() {
		texts = append(texts, fmt.Sprintf("%d.%d.%s", e.Client, e.Num, e.Op))
	}
	return strings.Join(texts, "/")
}

// all tells all that can be looked at.
func all(r *replica.Replica) string {
	epoch, view, status, decided := r.Where()
	text := fmt.Sprint(epoch, view, status, decided, r.Group(), r.Old(), r.Lives(), logOf(r))
	for key := 0; key < 256; key++ {
		text += r.Value(byte(key)) + ","
	}
	for client := 0; client <= 10; client++ {
		num, result := r.Session(client)
		text += strconv.Itoa(num) + result + ","
	}
	return text
}

func answer(r *replica.Replica, line string) string {
	word, rest, _ := strings.Cut(line, " ")
	switch word {
	case "take":
		return sends(r.Take(rest))
	case "beat":
		return sends(r.Beat())
	case "suspect":
		return sends(r.Suspect())
	case "where":
		epoch, view, status, decided := r.Where()
		return fmt.Sprint(epoch, view, status, decided)
	case "log":
		return logOf(r)
	case "groups":
		return fmt.Sprint(r.Group(), r.Old())
	case "lives":
		return fmt.Sprint(r.Lives())
	case "value":
		return r.Value(rest[0])
	case "session":
		client, _ := strconv.Atoi(rest)
		num, result := r.Session(client)
		return fmt.Sprintf("%d %s", num, result)
	}
	return "(no such line)"
}

func play(t *testing.T, r *replica.Replica, steps []step) {
	t.Helper()
	for i, s := range steps {
		if got := answer(r, s.line); got != s.want {
			t.Fatalf("step %d, %q:\n got %q\nwant %q", i, s.line, got, s.want)
		}
	}
}

func made(t *testing.T, id int, n int, group string) *replica.Replica {
	t.Helper()
	r, err := replica.New(id, n, group)
	if r == nil || err != api.OK {
		t.Fatalf("New(%d, %d, %q): %v, %v", id, n, group, r, err)
	}
	return r
}

func restarted(t *testing.T, id int, n int, life int) *replica.Replica {
	t.Helper()
	r, err := replica.Restart(id, n, life)
	if r == nil || err != api.OK {
		t.Fatalf("Restart(%d, %d, %d): %v, %v", id, n, life, r, err)
	}
	return r
}
