// Package message: the texts that clients and replicas send one another, read and written.
package message

import "quorum/api"

// Message is what one text says. Kind is its letter, and settles which of the other fields have a meaning; the rest are zero.
type Message struct {
	Kind   byte
	From   int
	Lives  []int
	Epoch  int
	View   int
	Place  int
	Entry  api.Entry // of m: what is asked is r and the digits, be they a group or not
	Commit int
	Normal int
	Life   int
	Group  []int
	Old    []int
	Log    []api.Entry
}

// Group reads a group of the n replicas; nil: the text is none.
func Group(text string, n int) []int {
	if len(text) != 3 && len(text) != 5 {
		return nil
	}
	var group []int
	for i := 0; i < len(text); i++ {
		if !isDigit(text[i]) {
			return nil
		}
		member := int(text[i] - '0')
		if member >= n || Contains(group, member) {
			return nil
		}
		group = append(group, member)
	}
	return group
}

// Contains tells whether a replica is a member of a group.
func Contains(group []int, replica int) bool {
	for i := 0; i < len(group); i++ {
		if group[i] == replica {
			return true
		}
	}
	return false
}

// NextGroup reads the group that an entry with r asks for; nil: it asks for none.
func NextGroup(e api.Entry, n int) []int {
	if !IsRegroup(e) {
		return nil
	}
	return Group(e.Op[1:], n)
}

// IsRegroup tells whether an entry is one with r.
func IsRegroup(e api.Entry) bool {
	return len(e.Op) > 0 && e.Op[0] == 'r'
}
