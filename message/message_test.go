package message

import (
	"fmt"
	"reflect"
	"strings"
	"testing"
	"unsafe"

	"quorum/api"
)

var put = api.Entry{Client: 1, Num: 1, Op: "pa5"}

var lives3 = []int{0, 4, 999}

// Every kind that comes to a replica, with its fields; n is 3 unless the text needs more.
var known = []struct {
	text string
	n    int
	want Message
}{
	{"q 1 1 pa5", 3, Message{Kind: 'q', Entry: put}},
	{"q 9 999 gz", 3, Message{Kind: 'q', Entry: api.Entry{Client: 9, Num: 999, Op: "gz"}}},
	{"q 2 10 da", 3, Message{Kind: 'q', Entry: api.Entry{Client: 2, Num: 10, Op: "da"}}},
	{"q 2 10 ca0z", 3, Message{Kind: 'q', Entry: api.Entry{Client: 2, Num: 10, Op: "ca0z"}}},
	{"m 1 2 0 012", 3, Message{Kind: 'm', Entry: api.Entry{Client: 1, Num: 2, Op: "r012"}}},
	{"m 1 2 999 99999999", 3, Message{Kind: 'm', Epoch: 999, Entry: api.Entry{Client: 1, Num: 2, Op: "r99999999"}}},
	{"m 1 2 3 0", 3, Message{Kind: 'm', Epoch: 3, Entry: api.Entry{Client: 1, Num: 2, Op: "r0"}}},
	{"p 0 0.4.999 10 999 10 1.1.pa5 10", 3, Message{Kind: 'p', Lives: lives3, Epoch: 10, View: 999, Place: 10, Entry: put, Commit: 10}},
	{"p 0 0.4.999 0 0 1 1.1.r210 0", 3, Message{Kind: 'p', Lives: lives3, Place: 1, Entry: api.Entry{Client: 1, Num: 1, Op: "r210"}}},
	{"k 2 0.4.999 0 0 0", 3, Message{Kind: 'k', From: 2, Lives: lives3}},
	{"k 2 0.4.999 0 0 10", 3, Message{Kind: 'k', From: 2, Lives: lives3, Place: 10}},
	{"c 1 0.4.999 0 7 3", 3, Message{Kind: 'c', From: 1, Lives: lives3, View: 7, Commit: 3}},
	{"h 1 0.4.999 0 7", 3, Message{Kind: 'h', From: 1, Lives: lives3, View: 7}},
	{"g 1 0.4.999 0 7", 3, Message{Kind: 'g', From: 1, Lives: lives3, View: 7}},
	{"r 1 0.4.999 0 7", 3, Message{Kind: 'r', From: 1, Lives: lives3, View: 7}},
	{"t 1 0.4.999 2 7", 3, Message{Kind: 't', From: 1, Lives: lives3, Epoch: 2, View: 7}},
	{"v 1 0.4.999 2 7 999 0 -", 3, Message{Kind: 'v', From: 1, Lives: lives3, Epoch: 2, View: 7, Normal: 999}},
	{"v 1 0.4.999 2 7 0 1 1.1.pa5", 3, Message{Kind: 'v', From: 1, Lives: lives3, Epoch: 2, View: 7, Commit: 1, Log: []api.Entry{put}}},
	{"s 1 0.4.999 2 7 012 - 0 -", 3, Message{Kind: 's', From: 1, Lives: lives3, Epoch: 2, View: 7, Group: []int{0, 1, 2}}},
	{"s 1 0.4.999 2 7 201 012 2 1.1.pa5/1.1.pa5", 3, Message{Kind: 's', From: 1, Lives: lives3, Epoch: 2, View: 7, Group: []int{2, 0, 1}, Old: []int{0, 1, 2}, Commit: 2, Log: []api.Entry{put, put}}},
	{"a 1 0.4.999 2 7 999 201 - 0 1.1.pa5", 3, Message{Kind: 'a', From: 1, Lives: lives3, Epoch: 2, View: 7, Life: 999, Group: []int{2, 0, 1}, Log: []api.Entry{put}}},
	{"a 6 0.0.0.0.0.0.0 2 7 1 60123 654 0 -", 7, Message{Kind: 'a', From: 6, Lives: make([]int, 7), Epoch: 2, View: 7, Life: 1, Group: []int{6, 0, 1, 2, 3}, Old: []int{6, 5, 4}}},
}

func TestRead(t *testing.T) {
	for _, c := range known {
		got, ok := Read(c.text, c.n)
		if !ok || !reflect.DeepEqual(got, c.want) {
			t.Errorf("%q: got %v %+v, want %+v", c.text, ok, got, c.want)
		}
	}
}

func TestWrite(t *testing.T) {
	for _, c := range known {
		if c.want.Kind == 'q' || c.want.Kind == 'm' {
			continue
		}
		if got := Write(c.want); got != c.text {
			t.Errorf("got %q, want %q", got, c.text)
		}
	}
	if got := Reply(9, 999, "bad"); got != "y 9 999 bad" {
		t.Errorf("got %q", got)
	}
}

// No byte can go, and no blank can come, without the text being another message or none: one text for each message.
func TestOneTextForEach(t *testing.T) {
	for _, c := range known {
		for i := 0; i <= len(c.text); i++ {
			for _, b := range []string{" ", "\t", "\n", "\x00", "+", "é"} {
				wrong := c.text[:i] + b + c.text[i:]
				if m, ok := Read(wrong, c.n); ok && reflect.DeepEqual(m, c.want) {
					t.Errorf("%q is read as %q is", wrong, c.text)
				}
			}
			if i < len(c.text) {
				wrong := c.text[:i] + c.text[i+1:]
				if m, ok := Read(wrong, c.n); ok && reflect.DeepEqual(m, c.want) {
					t.Errorf("%q is read as %q is", wrong, c.text)
				}
			}
		}
	}
}

func TestWords(t *testing.T) {
	for _, c := range known {
		for _, wrong := range []string{
			" " + c.text, c.text + " ", strings.Replace(c.text, " ", "  ", 1), strings.Replace(c.text, " ", "\t", 1),
			c.text + " 0", c.text + "\n", c.text[:strings.LastIndex(c.text, " ")], strings.ToUpper(c.text), c.text[1:],
		} {
			if m, ok := Read(wrong, c.n); ok {
				t.Errorf("%q: read as %+v", wrong, m)
			}
		}
	}
}

func TestTooFewWords(t *testing.T) {
	for _, c := range known {
		for i := 0; i < len(c.text); i++ {
			if c.text[i] != ' ' {
				continue
			}
			if m, ok := Read(c.text[:i], c.n); ok {
				t.Errorf("%q: read as %+v", c.text[:i], m)
			}
		}
	}
}

func TestNoMessage(t *testing.T) {
	eleven := strings.Repeat("1.1.pa5/", 10) + "1.1.pa5"
	for _, text := range []string{
		"", " ", "q", "p", "qq 1 1 pa5", "x 1 0.0.0 0 0", "y 1 1 ok", "Q 1 1 pa5",
		"q 0 1 pa5", "q 10 1 pa5", "q 01 1 pa5", "q -1 1 pa5", "q +1 1 pa5", "q 1 0 pa5", "q 1 1000 pa5", "q 1 00 pa5",
		"q 1 99999999999999999999999999 pa5", "q 1 18446744073709551617 pa5", "q 1 1x pa5",
		"q 1 1 p", "q 1 1 g", "q 1 1 pa", "q 1 1 pa55", "q 1 1 pA5", "q 1 1 paA", "q 1 1 p55", "q 1 1 pa-", "q 1 1 pa.",
		"q 1 1 ga5", "q 1 1 da5", "q 1 1 g5", "q 1 1 d{", "q 1 1 g`", "q 1 1 ca5", "q 1 1 ca555", "q 1 1 ca5-", "q 1 1 ca-5", "q 1 1 xa",
		"q 1 1 pa/", "q 1 1 pa:", "q 1 1 r012", "q 1 1 r", "q 1 1 1.1.pa5",
		"m 1 1 0", "m 0 1 0 012", "m 1 0 0 012", "m 1 1 1000 012", "m 1 1 00 012", "m 1 1 0 123456789", "m 1 1 0 01a", "m 1 1 0 -", "m 1 1 0 r012",
		"k 3 0.0.0 0 0 1", "k -1 0.0.0 0 0 1", "k 01 0.0.0 0 0 1", "k 1 0.0 0 0 1", "k 1 0.0.0.0 0 0 1", "k 1 0.0.1000 0 0 1",
		"k 1 0.0. 0 0 1", "k 1 .0.0 0 0 1", "k 1 0..0 0 0 1", "k 1 0.00.0 0 0 1", "k 1 0,0,0 0 0 1",
		"k 1 0.0.0 11 0 1", "k 1 0.0.0 0 1000 1", "k 1 0.0.0 00 0 1", "k 1 0.0.0 0 0 11", "k 1 0.0.0 0 0 -1", "k 1 0.0.0 0 0 01",
		"c 1 0.0.0 0 0 11", "c 1 0.0.0 0 0 1 1", "h 1 0.0.0 0", "h 1 0.0.0 0 0 0", "g 1 0.0.0 0 0 -", "r 1 0.0.0", "t 1 0.0.0 0 0 1",
		"p 0 0.0.0 0 0 0 1.1.pa5 0", "p 0 0.0.0 0 0 11 1.1.pa5 0", "p 0 0.0.0 0 0 1 1.1.pa5 11", "p 0 0.0.0 0 0 1 1.1.pa5", "p 0 0.0.0 0 0 1 - 0",
		"p 0 0.0.0 0 0 1 0.1.pa5 0", "p 0 0.0.0 0 0 1 10.1.pa5 0", "p 0 0.0.0 0 0 1 1.0.pa5 0", "p 0 0.0.0 0 0 1 1.1000.pa5 0", "p 0 0.0.0 0 0 1 1.01.pa5 0",
		"p 0 0.0.0 0 0 1 1.1.xa5 0", "p 0 0.0.0 0 0 1 1.1. 0", "p 0 0.0.0 0 0 1 1.1 0", "p 0 0.0.0 0 0 1 1.1.pa5.1 0", "p 0 0.0.0 0 0 1 1.1.pa5/1.1.pa5 0",
		"p 0 0.0.0 0 0 1 1.1.r 0", "p 0 0.0.0 0 0 1 1.1.r01 0", "p 0 0.0.0 0 0 1 1.1.r013 0", "p 0 0.0.0 0 0 1 1.1.r011 0", "p 0 0.0.0 0 0 1 1.1.r0120 0", "p 0 0.0.0 0 0 1 1.1.r01234 0",
		"v 1 0.0.0 0 1 1000 0 -", "v 1 0.0.0 0 1 0 1 -", "v 1 0.0.0 0 1 0 2 1.1.pa5", "v 1 0.0.0 0 1 0 0 ", "v 1 0.0.0 0 1 0 0 --", "v 1 0.0.0 0 1 0 0 -/-",
		"v 1 0.0.0 0 1 0 0 1.1.pa5/", "v 1 0.0.0 0 1 0 0 /1.1.pa5", "v 1 0.0.0 0 1 0 0 1.1.pa5//1.1.pa5", "v 1 0.0.0 0 1 0 0 " + eleven, "v 1 0.0.0 0 1 0 11 " + eleven,
		"s 1 0.0.0 0 1 - - 0 -", "s 1 0.0.0 0 1 013 - 0 -", "s 1 0.0.0 0 1 012 013 0 -", "s 1 0.0.0 0 1 012 -- 0 -", "s 1 0.0.0 0 1 012 - 1 -", "s 1 0.0.0 0 1 012 0 -", "s 1 0.0.0 0 1 012 -",
		"a 1 0.0.0 0 1 0 012 - 0 -", "a 1 0.0.0 0 1 1000 012 - 0 -", "a 1 0.0.0 0 1 012 - 0 -", "a 1 0.0.0 0 1 1 012 - 2 1.1.pa5",
		strings.Repeat(" ", api.MaxText), strings.Repeat("q", api.MaxText+1), "q 1 1 " + strings.Repeat("p", 1<<20), strings.Repeat("1.1.pa5/", 1<<17),
	} {
		got, ok := Read(text, 3)
		if ok || !reflect.DeepEqual(got, Message{}) {
			t.Errorf("%.80q: got %v %+v", text, ok, got)
		}
	}
}

func TestFullLog(t *testing.T) {
	full := strings.Repeat("9.999.r01234/", 9) + "9.999.r01234"
	text := "a 6 999.999.999.999.999.999.999 10 999 999 01234 65432 10 " + full
	m, ok := Read(text, 7)
	if !ok || len(m.Log) != api.MaxLog || Write(m) != text {
		t.Errorf("%v %+v", ok, m)
	}
}

func TestGroup(t *testing.T) {
	for _, c := range []struct {
		text string
		n    int
		want string
	}{
		{"012", 3, "[0 1 2]"}, {"210", 3, "[2 1 0]"}, {"01234", 5, "[0 1 2 3 4]"}, {"642", 7, "[6 4 2]"},
		{"", 3, "[]"}, {"0", 3, "[]"}, {"01", 3, "[]"}, {"0123", 4, "[]"}, {"012345", 7, "[]"}, {"0123456", 7, "[]"},
		{"013", 3, "[]"}, {"011", 3, "[]"}, {"010", 3, "[]"}, {"01233", 5, "[]"}, {"01235", 5, "[]"}, {"0a2", 3, "[]"}, {"-12", 3, "[]"}, {"0:2", 7, "[]"}, {" 12", 3, "[]"}, {"0/2", 7, "[]"},
	} {
		got := Group(c.text, c.n)
		if fmt.Sprint(got) != c.want || (c.want == "[]") != (got == nil) {
			t.Errorf("%q of %d: got %v, want %s", c.text, c.n, got, c.want)
		}
	}
}

// What is kept of a text does not change with it.
func TestTextIsNotKept(t *testing.T) {
	for _, text := range []string{"q 1 1 pa5", "m 1 1 0 012", "p 0 0.0.0 0 0 1 1.1.pa5 0", "s 1 0.0.0 0 1 012 - 0 1.1.pa5/1.1.r012"} {
		bytes := []byte(text)
		got, _ := Read(unsafe.String(&bytes[0], len(bytes)), 3)
		for i := range bytes {
			bytes[i] = '#'
		}
		want, _ := Read(text, 3)
		if !reflect.DeepEqual(got, want) {
			t.Errorf("%q: got %+v", text, got)
		}
	}
}
