package replica

import (
	"quorum/api"
	"quorum/message"
)

// sent hands out what the call has sent and lets go of it: it is the caller's from then on.
func (r *Replica) sent() []api.Out {
	out := r.out
	r.out = nil
	return out
}

// head is a message of this replica as it is now, without what its kind adds.
func (r *Replica) head(kind byte) message.Message {
	return message.Message{Kind: kind, From: r.id, Lives: r.lives, Epoch: r.epoch, View: r.view}
}

func (r *Replica) send(to int, m message.Message) {
	r.out = append(r.out, api.Out{To: to, Text: message.Write(m)})
}

// sendOthers sends to all others of a group.
func (r *Replica) sendOthers(group []int, m message.Message) {
	for i := 0; i < len(group); i++ {
		if group[i] != r.id {
			r.send(group[i], m)
		}
	}
}

// sendBare sends a message of a kind that adds nothing: h, g, r or t.
func (r *Replica) sendBare(to int, kind byte) {
	m := r.head(kind)
	r.send(to, m)
}

// sendEntry sends p for the entry at a place of the log to all others of the group.
func (r *Replica) sendEntry(place int) {
	if place < 1 || place > len(r.log) {
		return
	}
	m := r.head('p')
	m.Place = place
	m.Entry = r.log[place-1]
	m.Commit = r.decided
	r.sendOthers(r.group, m)
}

// ack sends k: it has the whole of its log.
func (r *Replica) ack(to int) {
	k := r.head('k')
	k.Place = len(r.log)
	r.send(to, k)
}

func (r *Replica) reply(client int, num int, result string) {
	r.out = append(r.out, api.Out{To: -client, Text: message.Reply(client, num, result)})
}

// tell: to tell one its STATE.
func (r *Replica) tell(to int) {
	m := r.state()
	r.send(to, m)
}

// tellOthers tells the STATE to all others of the group.
func (r *Replica) tellOthers() {
	m := r.state()
	r.sendOthers(r.group, m)
}

func (r *Replica) state() message.Message {
	m := r.head('s')
	m.Group = r.group
	m.Old = r.old
	m.Commit = r.decided
	m.Log = r.log
	return m
}

// tellStart tells the old group that it carries the epoch.
func (r *Replica) tellStart() {
	t := r.head('t')
	r.sendOthers(r.old, t)
}

// tellBeginning tells one the BEGINNING of the epoch.
func (r *Replica) tellBeginning(to int) {
	m := r.state()
	m.View = 0
	m.Log = upToRegroup(r.log, r.epoch)
	m.Commit = len(m.Log)
	r.send(to, m)
}
