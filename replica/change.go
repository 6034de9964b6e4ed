package replica

import "quorum/api"

// want: to want a view (P9).
func (r *Replica) want(view int) {
	if r.status == api.Normal {
		r.normal = r.view
	}
	r.view = view
	r.status = api.Change
	r.acks = [api.MaxNodes]int{}
	r.call()
}

// call tells all others of the group which view is wanted, and votes.
func (r *Replica) call() {
	h := r.head('h')
	r.sendOthers(r.group, h)
	r.vote()
}

// vote: the view's primary need not be sent its own vote.
func (r *Replica) vote() {
	primary := r.primary()
	if primary == r.id {
		return
	}
	v := r.head('v')
	v.Normal = r.normal
	v.Commit = r.decided
	v.Log = r.log
	r.send(primary, v)
}
