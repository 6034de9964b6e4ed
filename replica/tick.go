package replica

import "quorum/api"

// Beat is a tick: what may have been lost is sent again (P12).
func (r *Replica) Beat() []api.Out {
	switch {
	case r.leads():
		r.remind()
	case r.status == api.Change:
		r.call()
		r.voteAgain()
	case r.status == api.Recover:
		r.ask()
	case r.status == api.Leave:
		r.tellOthers()
	}
	return r.sent()
}

// Suspect is a tick: the primary is taken to be gone (P12).
func (r *Replica) Suspect() []api.Out {
	if r.carries() && r.view < api.MaxNum {
		r.want(r.view + 1)
	}
	return r.sent()
}

// remind: of the primary: what is not decided is sent again, or how much is.
func (r *Replica) remind() {
	if r.decided == len(r.log) {
		c := r.head('c')
		c.Commit = r.decided
		r.sendOthers(r.group, c)
		return
	}
	for place := r.decided + 1; place <= len(r.log); place++ {
		r.sendEntry(place)
	}
}

// ask asks all others for what is lost.
func (r *Replica) ask() {
	for i := 0; i < r.n; i++ {
		if i != r.id {
			r.sendBare(i, 'r')
		}
	}
}
