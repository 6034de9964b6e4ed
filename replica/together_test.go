package replica_test

import (
	"fmt"
	"math/rand"
	"strconv"
	"strings"
	"testing"

	"quorum/api"
	"quorum/replica"
)

// world is replicas, what is on the way between them, and what has been seen of them.
type world struct {
	t       *testing.T
	seed    int64
	random  *rand.Rand
	nodes   []*replica.Replica
	lives   []int
	way     []api.Out
	decided []string          // by place, as far as any replica has decided
	replies map[string]string // by request
}

func newWorld(t *testing.T, seed int64, n int, group string) *world {
	t.Helper()
	w := &world{t: t, seed: seed, random: rand.New(rand.NewSource(seed)), lives: make([]int, n), replies: map[string]string{}}
	for id := 0; id < n; id++ {
		w.nodes = append(w.nodes, made(t, id, n, group))
	}
	return w
}

// step: now and then a client asks, or a tick comes; else something on the way comes, is lost, or comes and stays on the way.
func (w *world) step(doubt int) {
	w.t.Helper()
	id := w.random.Intn(len(w.nodes))
	switch {
	case w.random.Intn(20) == 0:
		op := []string{"pa1", "ga", "ca12", "da", "pa2"}[w.random.Intn(5)]
		w.send(w.nodes[id].Take(fmt.Sprintf("q %d %d %s", 1+w.random.Intn(3), 1+w.random.Intn(6), op)))
	case w.random.Intn(20) == 0:
		w.send(w.nodes[id].Beat())
	case w.random.Intn(doubt) == 0:
		w.send(w.nodes[id].Suspect())
	case len(w.way) > 0:
		at := w.random.Intn(len(w.way))
		o := w.way[at]
		if w.random.Intn(5) > 0 {
			w.way = append(w.way[:at], w.way[at+1:]...)
		}
		if w.random.Intn(8) > 0 {
			w.send(w.nodes[o.To].Take(o.Text))
		}
	}
	if len(w.way) > 80 {
		w.way = w.way[30:]
	}
	w.isOneService()
}

// regroup: a client asks one for another group, as of an epoch that may be over or still to come there.
func (w *world) regroup() {
	w.t.Helper()
	id := w.random.Intn(len(w.nodes))
	epoch, _, _, _ := w.nodes[id].Where()
	epoch += []int{0, 0, 0, 0, 1, -1}[w.random.Intn(6)]
	digits := ""
	for _, member := range w.random.Perm(len(w.nodes))[:[]int{3, 5}[w.random.Intn(2)]] {
		digits += strconv.Itoa(member)
	}
	w.send(w.nodes[id].Take(fmt.Sprintf("m %d %d %d %s", 4+w.random.Intn(2), 1+w.random.Intn(6), epoch, digits)))
}

// crash: one loses all, unless that would be more at a time than can be borne.
func (w *world) crash(atATime int) {
	w.t.Helper()
	id := w.random.Intn(len(w.nodes))
	if w.recovering() >= atATime {
		return
	}
	w.lives[id]++
	w.nodes[id] = restarted(w.t, id, len(w.nodes), w.lives[id])
}

func (w *world) recovering() int {
	count := 0
	for _, r := range w.nodes {
		if _, _, status, _ := r.Where(); status == api.Recover {
			count++
		}
	}
	return count
}

// calm: nothing is lost any more, and nobody suspects but where one that recovers may have been the primary.
func (w *world) calm(rounds int) {
	w.t.Helper()
	w.way = nil
	for round := 0; round < rounds; round++ {
		if w.recovering() > 0 && round%3 == 0 {
			w.send(w.nodes[w.random.Intn(len(w.nodes))].Suspect())
		}
		w.round()
	}
}

// round: a tick comes to all, and all that is sent then comes to whom it is for.
func (w *world) round() {
	w.t.Helper()
	for _, r := range w.nodes {
		w.send(r.Beat())
	}
	for i := 0; i < 3000 && len(w.way) > 0; i++ {
		o := w.way[0]
		w.way = w.way[1:]
		w.send(w.nodes[o.To].Take(o.Text))
		w.isOneService()
	}
}

// send: a request has one result, however often and by whomever it is told.
func (w *world) send(out []api.Out) {
	w.t.Helper()
	for _, o := range out {
		if o.To >= 0 {
			w.way = append(w.way, o)
			continue
		}
		at := strings.LastIndex(o.Text, " ")
		request, result := o.Text[:at], o.Text[at:]
		if result == " bad" {
			continue // that is of no entry
		}
		if known, ok := w.replies[request]; ok && known != result {
			w.t.Fatalf("seed %d: %s: %s and %s", w.seed, request, known, result)
		}
		w.replies[request] = result
	}
}

// isOneService: what one has decided at a place, all have that decide there; and it has come to what that makes.
func (w *world) isOneService() {
	w.t.Helper()
	for id, r := range w.nodes {
		_, _, _, decided := r.Where()
		log := r.Log()
		for i := 0; i < decided; i++ {
			entry := fmt.Sprint(log[i])
			if i == len(w.decided) {
				w.decided = append(w.decided, entry)
			}
			if w.decided[i] != entry {
				w.t.Fatalf("seed %d: replica %d has decided %s at place %d, not %s", w.seed, id, entry, i+1, w.decided[i])
			}
		}
		if want := valueBehind(log[:decided]); r.Value('a') != want {
			w.t.Fatalf("seed %d: replica %d, %d decided of %s: a is %q, not %q", w.seed, id, decided, logOf(r), r.Value('a'), want)
		}
	}
}

// areAlike: all of them know the same, and all is decided.
func (w *world) areAlike() {
	w.t.Helper()
	first := all(w.nodes[0])
	_, _, status, decided := w.nodes[0].Where()
	if status != api.Normal || decided != len(w.nodes[0].Log()) || decided < len(w.decided) {
		w.t.Errorf("seed %d: replica 0: %s", w.seed, first)
	}
	for id, r := range w.nodes {
		if all(r) != first {
			w.t.Errorf("seed %d: replica %d: %s\nreplica 0: %s", w.seed, id, all(r), first)
		}
	}
}

// valueBehind is what the key a has when a log of pa1, ca12, da, pa2 and ga is carried out.
func valueBehind(log []api.Entry) string {
	value := ""
	for _, e := range log {
		switch {
		case e.Op == "pa1":
			value = "1"
		case e.Op == "pa2" || e.Op == "ca12" && value == "1":
			value = "2"
		case e.Op == "da":
			value = ""
		}
	}
	return value
}

// last is the last epoch that any replica knows of, and its group.
func (w *world) last() (int, []int) {
	last, group := 0, []int(nil)
	for _, r := range w.nodes {
		if epoch, _, _, _ := r.Where(); r.Group() != nil && epoch >= last {
			last, group = epoch, r.Group()
		}
	}
	return last, group
}

// isSettled: all members of the last epoch's group carry it in one view, with one log, and all of that is decided.
func (w *world) isSettled() bool {
	last, group := w.last()
	_, view, _, _ := w.nodes[group[0]].Where()
	log := logOf(w.nodes[group[0]])
	for _, id := range group {
		r := w.nodes[id]
		where := [4]int{last, view, api.Normal, len(r.Log())}
		if epoch, view, status, decided := r.Where(); where != [4]int{epoch, view, status, decided} || logOf(r) != log || decided < len(w.decided) {
			return false
		}
	}
	return true
}

// settle: nothing is lost any more; now and then a member of the last group suspects, for its primary may recover, or may not know yet that it is one.
func (w *world) settle() {
	w.t.Helper()
	w.way = nil
	for round := 0; round < 60 && !w.isSettled(); round++ {
		if _, group := w.last(); round%3 == 2 {
			w.send(w.nodes[group[w.random.Intn(len(group))]].Suspect())
		}
		w.round()
	}
	if w.isSettled() {
		return
	}
	w.t.Errorf("seed %d: the last group does not come to carry its epoch", w.seed)
	for id, r := range w.nodes {
		w.t.Logf("replica %d: %s", id, all(r))
	}
}

// Whoever crashes, as long as no more than f are recovering at a time: what is decided stays so, and all come to be alike.
func TestTogetherWithCrashes(t *testing.T) {
	crashes, decided := 0, 0
	for seed := int64(0); seed < 120; seed++ {
		n, group := 3, "201"
		if seed%2 == 1 {
			n, group = 5, "20143"
		}
		w := newWorld(t, seed, n, group)
		doubt := []int{100, 40, 400}[seed%3]
		for i := 0; i < 1500; i++ {
			w.step(doubt)
			if w.random.Intn(60) == 0 {
				w.crash((n - 1) / 2)
			}
		}
		w.calm(40)
		w.areAlike()
		for _, life := range w.lives {
			crashes += life
		}
		decided += len(w.decided)
	}
	if crashes < 300 || decided < 300 {
		t.Errorf("%d crashes, %d entries decided: too few to tell anything", crashes, decided)
	}
}

// Whatever is lost, comes twice or late, and whoever is suspected: the replicas are one service, and come to be alike once that ends.
func TestTogether(t *testing.T) {
	for seed := int64(0); seed < 60; seed++ {
		n, group := 3, "201"
		if seed%2 == 1 {
			n, group = 5, "20143"
		}
		w := newWorld(t, seed, n, group)
		doubt := []int{1 << 30, 400, 60}[seed%3]
		for i := 0; i < 1500; i++ {
			w.step(doubt)
		}
		w.calm(8)
		w.areAlike()
		if len(w.decided) == 0 {
			t.Errorf("seed %d: nothing was decided", seed)
		}
	}
}

// Groups follow one another, crashes or none (one at a time, for a group may be of three): what is decided stays so, and the last group comes to carry the service.
func TestTogetherWithEpochs(t *testing.T) {
	epochs, crashes := 0, 0
	for seed := int64(0); seed < 90; seed++ {
		n := 5 + int(seed%3)
		w := newWorld(t, seed, n, []string{"201", "20143"}[seed%2])
		doubt := []int{100, 40, 400}[w.random.Intn(3)]
		for i := 0; i < 2000; i++ {
			w.step(doubt)
			if w.random.Intn(40) == 0 {
				w.regroup()
			}
			if seed%4 < 2 && w.random.Intn(60) == 0 {
				w.crash(1)
			}
		}
		w.settle()
		last, _ := w.last()
		epochs += last
		for _, life := range w.lives {
			crashes += life
		}
	}
	if epochs < 150 || crashes < 150 {
		t.Errorf("%d epochs, %d crashes: too few to tell anything", epochs, crashes)
	}
}
