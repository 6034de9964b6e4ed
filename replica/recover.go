package replica

import (
	"quorum/api"
	"quorum/message"
)

// takeAnswer: a, to one that has lost all (P10). What was asked in an earlier life is no answer now.
func (r *Replica) takeAnswer(m message.Message) {
	if m.Life != r.lives[r.id] {
		return
	}
	r.answers = joined(r.answers, m)
	a, ok := leading(r.answers)
	if ok && regroups(a.Log) <= a.Epoch {
		r.resume(a)
	}
}

// resume: it goes on from what an answer says.
func (r *Replica) resume(a message.Message) {
	r.enter(a)
	r.answers = nil
	if !r.isMember(r.id) {
		r.status = api.Away
		return
	}
	r.takeOver(a.Log)
	if !r.isPrimary() {
		r.ack(a.From)
	}
	r.decide(a.Commit)
}

// leading is the answer to go on from: the primary's, of the last view that more than f members of the last epoch's group know of; false: there is none yet.
func leading(answers []message.Message) (message.Message, bool) {
	epoch := greatestEpoch(answers)
	group := groupOf(answers, epoch)
	counted := ofGroup(answers, epoch, group)
	if len(counted) <= faults(group) {
		return message.Message{}, false
	}
	view := greatestView(counted)
	primary := primaryOf(group, view)
	for i := 0; i < len(counted); i++ {
		if counted[i].From == primary && counted[i].View == view {
			return counted[i], true
		}
	}
	return message.Message{}, false
}

func greatestEpoch(answers []message.Message) int {
	greatest := 0
	for i := 0; i < len(answers); i++ {
		if answers[i].Epoch > greatest {
			greatest = answers[i].Epoch
		}
	}
	return greatest
}

// groupOf is the group by the last answer of an epoch.
func groupOf(answers []message.Message, epoch int) []int {
	for i := len(answers) - 1; i >= 0; i-- {
		if answers[i].Epoch == epoch {
			return answers[i].Group
		}
	}
	return nil
}

// ofGroup are the answers of an epoch from members of a group.
func ofGroup(answers []message.Message, epoch int, group []int) []message.Message {
	var counted []message.Message
	for i := 0; i < len(answers); i++ {
		if answers[i].Epoch == epoch && message.Contains(group, answers[i].From) {
			counted = append(counted, answers[i])
		}
	}
	return counted
}

func greatestView(answers []message.Message) int {
	greatest := 0
	for i := 0; i < len(answers); i++ {
		if answers[i].View > greatest {
			greatest = answers[i].View
		}
	}
	return greatest
}
