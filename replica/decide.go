package replica

import "quorum/message"

// decide: to decide up to a place, but no more than the log. At the epoch's end it stops: what follows is the new group's to decide.
func (r *Replica) decide(place int) {
	for r.decided < place && r.decided < len(r.log) {
		e := r.log[r.decided]
		result := r.service.CarryOut(e)
		r.decided++
		if r.leads() {
			r.reply(e.Client, e.Num, result)
		}
		if message.IsRegroup(e) && regroups(r.log[:r.decided]) > r.epoch {
			group := message.NextGroup(e, r.n)
			r.turn(group)
			return
		}
	}
}
