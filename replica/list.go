package replica

import "quorum/message"

// joined is a list with one message more: of each sender it holds one, in the place of the first.
func joined(list []message.Message, m message.Message) []message.Message {
	var after []message.Message
	isNew := true
	for i := 0; i < len(list); i++ {
		if list[i].From == m.From {
			after = append(after, m)
			isNew = false
		} else {
			after = append(after, list[i])
		}
	}
	if isNew {
		after = append(after, m)
	}
	return after
}

// ofThisLife is a list without the messages of senders' lives that are over: who sent them has lost what they say.
func ofThisLife(list []message.Message, lives []int) []message.Message {
	var after []message.Message
	for i := 0; i < len(list); i++ {
		from := list[i].From
		if list[i].Lives[from] >= lives[from] {
			after = append(after, list[i])
		}
	}
	return after
}

// bestVote: of the greatest NORMAL, of these the longest log, of these the first.
func bestVote(votes []message.Message) message.Message {
	var best message.Message
	for i := 0; i < len(votes); i++ {
		if i == 0 || isBetter(votes[i], best) {
			best = votes[i]
		}
	}
	return best
}

func isBetter(v message.Message, best message.Message) bool {
	if v.Normal != best.Normal {
		return v.Normal > best.Normal
	}
	return len(v.Log) > len(best.Log)
}

func greatestCommit(votes []message.Message) int {
	greatest := 0
	for i := 0; i < len(votes); i++ {
		if votes[i].Commit > greatest {
			greatest = votes[i].Commit
		}
	}
	return greatest
}
