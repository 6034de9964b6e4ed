package replica

import (
	"quorum/api"
	"quorum/message"
	"quorum/service"
)

// takeState: s (P11).
func (r *Replica) takeState(m message.Message) {
	switch {
	case m.Epoch > r.epoch:
		r.takeLaterEpoch(m)
	case !r.carries():
		return
	case m.Epoch < r.epoch:
		r.takeEarlier(m)
	default:
		r.takeStateOfEpoch(m)
	}
}

// takeStateOfEpoch: s of this epoch, to one that is of its group.
func (r *Replica) takeStateOfEpoch(m message.Message) {
	switch {
	case m.View > r.view || m.View == r.view && r.status == api.Change:
		r.begin(m.View)
		r.takeOver(m.Log)
		r.catchUp(m.Commit)
	case m.View < r.view:
		if r.status == api.Normal {
			r.tell(m.From)
		}
	case !r.isPrimary() && len(m.Log) > len(r.log):
		r.takeOver(m.Log)
		r.catchUp(m.Commit)
	case !r.isMember(m.From):
		r.sendBare(m.From, 't')
	}
}

// catchUp: to CATCH UP.
func (r *Replica) catchUp(commit int) {
	if !r.isPrimary() {
		primary := r.primary()
		r.ack(primary)
	}
	r.decide(commit)
}

// takeOver: to take over a log. Nothing is sent for what is carried out anew: that was, when it was decided.
func (r *Replica) takeOver(log []api.Entry) {
	r.log = append([]api.Entry(nil), log...)
	if r.decided > len(r.log) {
		r.decided = len(r.log)
	}
	r.service = service.Service{}
	for i := 0; i < r.decided; i++ {
		r.service.CarryOut(r.log[i])
	}
}
