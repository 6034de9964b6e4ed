package replica

import "quorum/message"

// takeOfView: of this epoch and view, to one that is Normal (P8).
func (r *Replica) takeOfView(m message.Message) {
	if m.Kind == 'g' {
		r.tell(m.From)
		return
	}
	if !r.isMember(m.From) {
		return
	}
	switch m.Kind {
	case 'p':
		r.takeEntry(m)
	case 'c':
		r.takeCommit(m)
	case 'k':
		r.takeAck(m)
	case 'h', 'v':
		r.tell(m.From)
	}
}

func (r *Replica) takeEntry(m message.Message) {
	if m.From != r.primary() {
		return
	}
	if m.Place > len(r.log)+1 {
		r.sendBare(m.From, 'g')
		return
	}
	if m.Place == len(r.log)+1 {
		if r.isClosing() {
			return
		}
		r.log = append(r.log, m.Entry)
	}
	r.ack(m.From)
	r.decide(m.Commit)
}

func (r *Replica) takeCommit(m message.Message) {
	if m.From != r.primary() {
		return
	}
	if m.Commit > len(r.log) {
		r.sendBare(m.From, 'g')
		return
	}
	r.decide(m.Commit)
}

func (r *Replica) takeAck(m message.Message) {
	if !r.leads() || m.Place > len(r.log) {
		return
	}
	if m.Place > r.acks[m.From] {
		r.acks[m.From] = m.Place
	}
	place := r.acked()
	r.decide(place)
}

// acked is the greatest place that f members besides itself have.
func (r *Replica) acked() int {
	f := faults(r.group)
	for place := len(r.log); place > 0; place-- {
		if r.acksFor(place) >= f {
			return place
		}
	}
	return 0
}

// acksFor counts the members besides itself that have a place or more.
func (r *Replica) acksFor(place int) int {
	count := 0
	for i := 0; i < len(r.group); i++ {
		if r.group[i] != r.id && r.acks[r.group[i]] >= place {
			count++
		}
	}
	return count
}
