package service

import (
	"testing"

	"quorum/api"
)

func TestCarryOut(t *testing.T) {
	var s Service
	for i, c := range [][3]string{
		{"ga", "-", ""}, {"da", "-", ""}, {"ca5w", "no", ""},
		{"pa5", "ok", "5"}, {"ga", "5", "5"}, {"ca6w", "no", "5"}, {"ca5w", "ok", "w"}, {"ga", "w", "w"}, {"ca5x", "no", "w"},
		{"caww", "ok", "w"}, {"paz", "ok", "z"}, {"r012", "ok", "z"}, {"gb", "-", "z"}, {"pb1", "ok", "z"}, {"da", "ok", ""}, {"ga", "-", ""}, {"da", "-", ""},
	} {
		result := s.CarryOut(api.Entry{Client: 1, Num: i + 1, Op: c[0]})
		if result != c[1] || s.Value('a') != c[2] {
			t.Errorf("%d, %s: got %q, %q, want %q, %q", i, c[0], result, s.Value('a'), c[1], c[2])
		}
		num, last := s.Session(1)
		if num != i+1 || last != c[1] {
			t.Errorf("%d, %s: session %d %q", i, c[0], num, last)
		}
	}
	if s.Value('b') != "1" {
		t.Errorf("b: %q", s.Value('b'))
	}
}

func TestEdges(t *testing.T) {
	var s Service
	s.CarryOut(api.Entry{Client: 1, Num: 1, Op: "paa"})
	s.CarryOut(api.Entry{Client: 9, Num: 999, Op: "pz0"})
	for b := 0; b < 256; b++ {
		want := ""
		switch b {
		case 'a':
			want = "a"
		case 'z':
			want = "0"
		}
		if got := s.Value(byte(b)); got != want {
			t.Errorf("%d: %q", b, got)
		}
	}
	for client := -20; client < 20; client++ {
		num, result := s.Session(client)
		has := client == 1 || client == 9
		if (num != 0) != has || (result != "") != has {
			t.Errorf("%d: %d %q", client, num, result)
		}
	}
}

// What comes here is read by package message; but nothing else may make it panic.
func TestNoPanic(t *testing.T) {
	var s Service
	for _, op := range []string{"", "p", "pa", "c", "ca", "ca5", "g", "d", "r", "p\xff5", "\x00\x00\x00", "é"} {
		for _, client := range []int{-1, 0, 1, 9, 10} {
			s.CarryOut(api.Entry{Client: client, Num: 1, Op: op})
		}
	}
}
