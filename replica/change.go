package replica

import (
	"quorum/api"
	"quorum/message"
)

// want: to want a view (P9).
func (r *Replica) want(view int) {
	if r.status == api.Normal {
		r.normal = r.view
	}
	r.view = view
	r.status = api.Change
	r.acks = [api.MaxNodes]int{}
	r.votes = nil
	r.call()
	r.vote()
}

// call tells all others of the group which view is wanted.
func (r *Replica) call() {
	h := r.head('h')
	r.sendOthers(r.group, h)
}

// vote: the primary's own vote is not counted when it is cast: alone it never suffices.
func (r *Replica) vote() {
	own := r.ownVote()
	if r.isPrimary() {
		r.votes = joined(r.votes, own)
		return
	}
	primary := r.primary()
	r.send(primary, own)
}

// voteAgain: a vote that was sent may have been lost; the primary's own can't be.
func (r *Replica) voteAgain() {
	if !r.isPrimary() {
		r.vote()
	}
}

// ownVote holds copies: it stays as it was cast, whatever is learned since.
func (r *Replica) ownVote() message.Message {
	v := r.head('v')
	v.Lives = r.Lives()
	v.Normal = r.normal
	v.Commit = r.decided
	v.Log = r.Log()
	return v
}

// takeLaterView: h or v of a later view of this epoch (P9).
func (r *Replica) takeLaterView(m message.Message) {
	if !r.isMember(m.From) {
		return
	}
	r.want(m.View)
	if m.Kind == 'v' && r.isPrimary() {
		r.count(m)
	}
}

// takeInChange: of this epoch and view, in status Change (P9).
func (r *Replica) takeInChange(m message.Message) {
	if !r.isMember(m.From) {
		return
	}
	switch m.Kind {
	case 'p', 'c':
		r.sendBare(m.From, 'g')
	case 'h':
		r.voteAgain()
	case 'v':
		if r.isPrimary() {
			r.count(m)
		}
	}
}

// count: to count a vote: with more than f the view begins. A COMMIT beyond the best log is cut by decide.
func (r *Replica) count(m message.Message) {
	r.votes = joined(r.votes, m)
	if len(r.votes) <= faults(r.group) {
		return
	}
	best := bestVote(r.votes)
	commit := greatestCommit(r.votes)
	r.takeOver(best.Log)
	r.begin(r.view)
	r.tellOthers()
	r.decide(commit)
}

// begin: it is Normal in a view from now on.
func (r *Replica) begin(view int) {
	r.view = view
	r.normal = view
	r.status = api.Normal
	r.acks = [api.MaxNodes]int{}
	r.votes = nil
}
