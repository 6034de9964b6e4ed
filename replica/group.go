package replica

import (
	"quorum/api"
	"quorum/message"
)

// nobody is the primary where there is no group.
const nobody = -1

// primary is the primary of its view.
func (r *Replica) primary() int {
	return primaryOf(r.group, r.view)
}

func primaryOf(group []int, view int) int {
	if len(group) == 0 || view < 0 {
		return nobody
	}
	return group[view%len(group)]
}

func (r *Replica) isPrimary() bool {
	return r.primary() == r.id
}

// leads tells whether it is the Normal primary of its view.
func (r *Replica) leads() bool {
	return r.status == api.Normal && r.isPrimary()
}

// carries tells whether it is one of those that carry the epoch, be it while views change.
func (r *Replica) carries() bool {
	return r.status == api.Normal || r.status == api.Change
}

// faults is a group's f: how many of it may be gone without the others' coming to a halt.
func faults(group []int) int {
	return (len(group) - 1) / 2
}

func (r *Replica) isMember(replica int) bool {
	return message.Contains(r.group, replica)
}

// isClosing tells whether the log has an entry that ends this epoch.
func (r *Replica) isClosing() bool {
	return regroups(r.log) > r.epoch
}

// regroups counts the entries with r.
func regroups(log []api.Entry) int {
	count := 0
	for i := 0; i < len(log); i++ {
		if message.IsRegroup(log[i]) {
			count++
		}
	}
	return count
}

// upToRegroup is the part of a log up to its e-th entry with r, or all of it if there are fewer.
func upToRegroup(log []api.Entry, e int) []api.Entry {
	count := 0
	for i := 0; i < len(log); i++ {
		if !message.IsRegroup(log[i]) {
			continue
		}
		count++
		if count == e {
			return log[:i+1]
		}
	}
	return log
}
