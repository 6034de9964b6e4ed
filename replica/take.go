package replica

import (
	"quorum/api"
	"quorum/message"
)

// Take gives it a message: what it sends (P6 to P11).
func (r *Replica) Take(text string) []api.Out {
	m, ok := message.Read(text, r.n)
	if !ok {
		return nil
	}
	if m.Kind == 'q' || m.Kind == 'm' {
		r.takeRequest(m)
	} else if r.isAlive(m) {
		r.learnLives(m.Lives)
		r.votes = ofThisLife(r.votes, r.lives)
		r.answers = ofThisLife(r.answers, r.lives)
		r.takeOfReplica(m)
	}
	return r.sent()
}

// isAlive tells whether a message is of another replica's life that is not known to be over.
func (r *Replica) isAlive(m message.Message) bool {
	return m.From != r.id && m.Lives[m.From] >= r.lives[m.From]
}

// learnLives: what a replica acknowledged in an earlier life it has lost.
func (r *Replica) learnLives(lives []int) {
	for i := 0; i < r.n; i++ {
		if i != r.id && lives[i] > r.lives[i] {
			r.lives[i] = lives[i]
			r.acks[i] = 0
		}
	}
}

func (r *Replica) takeOfReplica(m message.Message) {
	if r.status == api.Recover {
		if m.Kind == 'a' {
			r.takeAnswer(m)
		}
		return
	}
	switch m.Kind {
	case 's':
		r.takeState(m)
		return
	case 'r':
		r.answer(m)
		return
	case 't':
		r.takeStart(m)
		return
	case 'a':
		return
	}
	if r.status == api.Away || r.status == api.Leave {
		r.takeOutside(m)
		return
	}
	r.takeInside(m)
}

// answer tells one that has lost all what is known here.
func (r *Replica) answer(m message.Message) {
	if r.status != api.Normal {
		return
	}
	a := r.state()
	a.Kind = 'a'
	a.Life = m.Lives[m.From]
	r.send(m.From, a)
}

// takeOutside: of one that is not of its epoch's group.
func (r *Replica) takeOutside(m message.Message) {
	if m.Epoch > r.epoch {
		r.sendBare(m.From, 'g')
		return
	}
	if m.Kind == 'g' && r.status == api.Leave && r.isMember(m.From) {
		r.tell(m.From)
	}
}

// takeInside: of one that is of its epoch's group.
func (r *Replica) takeInside(m message.Message) {
	laterView := m.Epoch == r.epoch && m.View > r.view
	switch {
	case m.Epoch == r.epoch && m.View == r.view && r.status == api.Change:
		r.takeInChange(m)
	case m.Epoch == r.epoch && m.View == r.view:
		r.takeOfView(m)
	case laterView && isOfChange(m):
		r.takeLaterView(m)
	case laterView || m.Epoch > r.epoch:
		r.sendBare(m.From, 'g')
	default:
		r.takeEarlier(m)
	}
}

// takeEarlier: of an earlier epoch, or an earlier view of this one.
func (r *Replica) takeEarlier(m message.Message) {
	switch {
	case r.status == api.Normal:
		r.tell(m.From)
	case m.Epoch < r.epoch:
		r.tellBeginning(m.From)
	case isOfChange(m) && r.isMember(m.From):
		r.sendBare(m.From, 'h')
	}
}

// isOfChange tells whether a message is one by which views change.
func isOfChange(m message.Message) bool {
	return m.Kind == 'h' || m.Kind == 'v'
}
