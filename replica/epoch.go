package replica

import (
	"quorum/api"
	"quorum/message"
)

// turn: THE EPOCH TURNS to a new group (P8).
func (r *Replica) turn(group []int) {
	r.old = r.group
	r.group = group
	r.epoch++
	r.begin(0)
	r.started = [api.MaxNodes]bool{}
	isMember := r.isMember(r.id)
	if !isMember {
		r.status = api.Leave
	}
	r.tellOthers()
	if isMember {
		r.tellStart()
	}
}

// enter: it is Normal in the epoch and view that a message tells of.
func (r *Replica) enter(m message.Message) {
	r.epoch = m.Epoch
	r.group = m.Group
	r.old = m.Old
	r.begin(m.View)
}

// takeLaterEpoch: s of a later epoch (P11).
func (r *Replica) takeLaterEpoch(m message.Message) {
	leaves := r.leavesBy(m)
	r.enter(m)
	switch {
	case r.isMember(r.id):
		r.takeOver(m.Log)
		r.tellStart()
		r.catchUp(m.Commit)
	case leaves:
		r.leave(m)
	default:
		r.status = api.Away
	}
}

// leavesBy tells whether it LEAVES: only one that has carried the epoch before can hand it on to the new group.
func (r *Replica) leavesBy(m message.Message) bool {
	return r.carries() && m.Epoch == r.epoch+1 && message.Contains(m.Old, r.id)
}

// leave: it hands on how the epoch began, and no more: what is behind that is the new group's alone.
func (r *Replica) leave(m message.Message) {
	r.status = api.Leave
	r.view = 0
	r.normal = 0
	r.started = [api.MaxNodes]bool{}
	log := upToRegroup(m.Log, r.epoch)
	r.takeOver(log)
	r.decide(m.Commit)
	r.tellOthers()
}

// takeStart: t (P11). With more than f members the new group goes on without those that leave.
func (r *Replica) takeStart(m message.Message) {
	if r.status != api.Leave || m.Epoch != r.epoch || !r.isMember(m.From) {
		return
	}
	r.started[m.From] = true
	if r.starters() > faults(r.group) {
		r.status = api.Away
	}
}

// starters counts those that have STARTED.
func (r *Replica) starters() int {
	count := 0
	for i := 0; i < len(r.started); i++ {
		if r.started[i] {
			count++
		}
	}
	return count
}
