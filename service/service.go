// Package service: what the replicas carry out alike: values by keys, and for each client what it asked last.
package service

import "quorum/api"

const keys = 26

// Service is empty at first, as its zero value is.
type Service struct {
	values   [keys]byte // 0: none
	sessions [api.MaxClients]session
}

type session struct {
	num    int
	result string
}

// CarryOut carries out an entry: its result.
func (s *Service) CarryOut(e api.Entry) string {
	result := s.do(e.Op)
	if e.Client >= 1 && e.Client <= api.MaxClients {
		s.sessions[e.Client-1] = session{num: e.Num, result: result}
	}
	return result
}

// do treats what is no operation as r, which the service itself has nothing to do for.
func (s *Service) do(op string) string {
	if len(op) < 2 || !isKey(op[1]) {
		return "ok"
	}
	place := int(op[1] - 'a')
	had := s.values[place]
	switch op[0] {
	case 'g':
		if had == 0 {
			return "-"
		}
		return string(rune(had))
	case 'd':
		if had == 0 {
			return "-"
		}
		s.values[place] = 0
	case 'p':
		if len(op) > 2 {
			s.values[place] = op[2]
		}
	case 'c':
		if len(op) < 4 || had != op[2] {
			return "no"
		}
		s.values[place] = op[3]
	}
	return "ok"
}

// Value tells what a key has; "" if it has nothing or is no key.
func (s *Service) Value(key byte) string {
	if !isKey(key) || s.values[key-'a'] == 0 {
		return ""
	}
	return string(rune(s.values[key-'a']))
}

// Session tells the number and the result of what was carried out last for a client; 0 and "" if nothing was.
func (s *Service) Session(client int) (int, string) {
	if client < 1 || client > api.MaxClients {
		return 0, ""
	}
	last := s.sessions[client-1]
	return last.num, last.result
}

func isKey(b byte) bool {
	return b >= 'a' && b <= 'z'
}
