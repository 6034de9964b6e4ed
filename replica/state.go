package replica

import (
	"quorum/api"
	"quorum/message"
	"quorum/service"
)

// takeState: s (P11).
func (r *Replica) takeState(m message.Message) {
	if m.Epoch != r.epoch {
		return // s of another epoch is still to come
	}
	if r.status != api.Normal && r.status != api.Change {
		return
	}
	switch {
	case m.View > r.view || m.View == r.view && r.status == api.Change:
		r.begin(m.View)
		r.takeOver(m.Log)
		r.catchUp(m.Commit)
	case m.View < r.view:
		if r.status == api.Normal {
			r.tell(m.From)
		}
	case !r.isPrimary() && len(m.Log) > len(r.log):
		r.takeOver(m.Log)
		r.catchUp(m.Commit)
	case !r.isMember(m.From):
		r.sendBare(m.From, 't')
	}
}

// catchUp: to CATCH UP.
func (r *Replica) catchUp(commit int) {
	if !r.isPrimary() {
		primary := r.primary()
		r.ack(primary)
	}
	r.decide(commit)
}

// takeOver: to take over a log. Nothing is sent for what is carried out anew: that was, when it was decided.
func (r *Replica) takeOver(log []api.Entry) {
	r.log = append([]api.Entry(nil), log...)
	if r.decided > len(r.log) {
		r.decided = len(r.log)
	}
	r.service = service.Service{}
	for i := 0; i < r.decided; i++ {
		r.service.CarryOut(r.log[i])
	}
}
