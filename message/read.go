package message

import "quorum/api"

// reader goes through a text's words. Once it is wrong it stays so: it need be asked only at the end.
type reader struct {
	words []string
	next  int
	n     int
	wrong bool
}

// Read tells what a text says to one of n replicas; false: it is no message of a client or a replica.
func Read(text string, n int) (Message, bool) {
	if len(text) > api.MaxText {
		return Message{}, false
	}
	r := &reader{words: split(text, ' '), n: n}
	m := r.message()
	if r.wrong || r.next != len(r.words) {
		return Message{}, false
	}
	return m, true
}

func (r *reader) message() Message {
	letter := r.word()
	if len(letter) != 1 {
		r.wrong = true
		return Message{}
	}
	if letter == "q" || letter == "m" {
		return r.ofClient(letter[0])
	}
	return r.ofReplica(letter[0])
}

func (r *reader) ofClient(kind byte) Message {
	m := Message{Kind: kind}
	m.Entry.Client = r.number(1, api.MaxClients)
	m.Entry.Num = r.number(1, api.MaxNum)
	if kind == 'q' {
		m.Entry.Op = r.operation()
		return m
	}
	m.Epoch = r.number(0, api.MaxNum)
	digits := r.digits()
	m.Entry.Op = "r" + digits
	return m
}

func (r *reader) ofReplica(kind byte) Message {
	m := Message{Kind: kind}
	m.From = r.number(0, r.n-1)
	m.Lives = r.lives()
	m.Epoch = r.number(0, api.MaxLog)
	m.View = r.number(0, api.MaxNum)
	switch kind {
	case 'p':
		m.Place = r.number(1, api.MaxLog)
		m.Entry = r.entry()
		m.Commit = r.number(0, api.MaxLog)
	case 'k':
		m.Place = r.number(0, api.MaxLog)
	case 'c':
		m.Commit = r.number(0, api.MaxLog)
	case 'h', 'g', 'r', 't':
	case 'v':
		m.Normal = r.number(0, api.MaxNum)
		r.history(&m)
	case 's':
		r.groups(&m)
		r.history(&m)
	case 'a':
		m.Life = r.number(1, api.MaxNum)
		r.groups(&m)
		r.history(&m)
	default:
		r.wrong = true
	}
	return m
}

// groups reads GROUP OLD.
func (r *reader) groups(m *Message) {
	m.Group = r.group()
	if r.next < len(r.words) && r.words[r.next] == "-" {
		r.next++
		return
	}
	m.Old = r.group()
}

// history reads COMMIT LOG.
func (r *reader) history(m *Message) {
	m.Commit = r.number(0, api.MaxLog)
	m.Log = r.log()
	if m.Commit > len(m.Log) {
		r.wrong = true
	}
}

func (r *reader) word() string {
	if r.next >= len(r.words) {
		r.wrong = true
		return ""
	}
	word := r.words[r.next]
	r.next++
	return word
}

func (r *reader) number(low int, high int) int {
	word := r.word()
	value, ok := number(word, low, high)
	if !ok {
		r.wrong = true
	}
	return value
}

func (r *reader) operation() string {
	word := r.word()
	if !isOperation(word) {
		r.wrong = true
		return ""
	}
	return fresh(word)
}

func (r *reader) digits() string {
	word := r.word()
	if len(word) < 1 || len(word) > 8 {
		r.wrong = true
		return ""
	}
	for i := 0; i < len(word); i++ {
		if !isDigit(word[i]) {
			r.wrong = true
			return ""
		}
	}
	return word
}

func (r *reader) lives() []int {
	word := r.word()
	parts := split(word, '.')
	if len(parts) != r.n {
		r.wrong = true
		return nil
	}
	var lives []int
	for i := 0; i < len(parts); i++ {
		life, ok := number(parts[i], 0, api.MaxNum)
		if !ok {
			r.wrong = true
			return nil
		}
		lives = append(lives, life)
	}
	return lives
}

func (r *reader) group() []int {
	word := r.word()
	group := Group(word, r.n)
	if group == nil {
		r.wrong = true
	}
	return group
}

func (r *reader) entry() api.Entry {
	word := r.word()
	e, ok := entry(word, r.n)
	if !ok {
		r.wrong = true
	}
	return e
}

func (r *reader) log() []api.Entry {
	word := r.word()
	if word == "-" {
		return nil
	}
	parts := split(word, '/')
	if len(parts) > api.MaxLog {
		r.wrong = true
		return nil
	}
	var log []api.Entry
	for i := 0; i < len(parts); i++ {
		e, ok := entry(parts[i], r.n)
		if !ok {
			r.wrong = true
			return nil
		}
		log = append(log, e)
	}
	return log
}
