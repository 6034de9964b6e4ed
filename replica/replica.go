// Package replica: one replica of the service: a plain machine that takes messages and two kinds of ticks, and tells what it sends: see DOC.md.
package replica

import (
	"quorum/api"
	"quorum/message"
	"quorum/service"
)

// Replica is one of n.
type Replica struct {
	id      int
	n       int
	lives   []int
	status  int
	epoch   int
	view    int
	normal  int
	group   []int
	old     []int
	log     []api.Entry
	decided int
	service service.Service
	acks    [api.MaxNodes]int
	votes   []message.Message
	answers []message.Message
	started [api.MaxNodes]bool
	out     []api.Out // what the call that is under way has sent so far
}

// New makes replica id of n at the service's beginning (P3).
func New(id int, n int, group string) (*Replica, api.Errno) {
	if !isOneOf(id, n) {
		return nil, api.ErrArg
	}
	members := message.Group(group, n)
	if members == nil {
		return nil, api.ErrArg
	}
	r := &Replica{id: id, n: n, lives: make([]int, n), group: members, status: api.Away}
	if r.isMember(id) {
		r.status = api.Normal
	}
	return r, api.OK
}

// Restart makes replica id of n that knows nothing but the number of its new life (P4).
func Restart(id int, n int, life int) (*Replica, api.Errno) {
	if !isOneOf(id, n) || life < 1 || life > api.MaxNum {
		return nil, api.ErrArg
	}
	r := &Replica{id: id, n: n, lives: make([]int, n), status: api.Recover}
	r.lives[id] = life
	return r, api.OK
}

func isOneOf(id int, n int) bool {
	return n >= api.MinNodes && n <= api.MaxNodes && id >= 0 && id < n
}

// Where tells epoch, view, status, and how much of the log is decided (P5).
func (r *Replica) Where() (int, int, int, int) {
	return r.epoch, r.view, r.status, r.decided
}

// Log tells the log (P5).
func (r *Replica) Log() []api.Entry {
	return append([]api.Entry(nil), r.log...)
}

// Group tells the epoch's group (P5).
func (r *Replica) Group() []int {
	return append([]int(nil), r.group...)
}

// Old tells the group of the epoch before (P5).
func (r *Replica) Old() []int {
	return append([]int(nil), r.old...)
}

// Lives tells of each replica the greatest life that is known here (P5).
func (r *Replica) Lives() []int {
	return append([]int(nil), r.lives...)
}

// Value tells what a key has, as far as is decided here (P5).
func (r *Replica) Value(key byte) string {
	return r.service.Value(key)
}

// Session tells the number of a client's last request that was carried out here, and its result (P5).
func (r *Replica) Session(client int) (int, string) {
	return r.service.Session(client)
}
