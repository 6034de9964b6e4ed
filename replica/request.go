package replica

import (
	"quorum/api"
	"quorum/message"
)

// takeRequest: P7.
func (r *Replica) takeRequest(m message.Message) {
	if !r.leads() {
		return
	}
	e := m.Entry
	last := r.lastNum(e.Client)
	switch {
	case e.Num < last:
		return
	case e.Num == last:
		r.replyAgain(e)
	case m.Kind == 'm' && m.Epoch > r.epoch:
		return
	case m.Kind == 'm' && (m.Epoch < r.epoch || message.NextGroup(e, r.n) == nil):
		r.reply(e.Client, e.Num, "bad")
	default:
		r.propose(e)
	}
}

// lastNum is the number of a client's last entry in the log; 0: there is none.
func (r *Replica) lastNum(client int) int {
	for i := len(r.log) - 1; i >= 0; i-- {
		if r.log[i].Client == client {
			return r.log[i].Num
		}
	}
	return 0
}

// replyAgain: the reply may have been lost; what is not carried out yet has none.
func (r *Replica) replyAgain(e api.Entry) {
	num, result := r.service.Session(e.Client)
	if num == e.Num {
		r.reply(e.Client, e.Num, result)
	}
}

func (r *Replica) propose(e api.Entry) {
	if r.isClosing() || len(r.log) >= api.MaxLog {
		return
	}
	r.log = append(r.log, e)
	r.sendEntry(len(r.log))
}
