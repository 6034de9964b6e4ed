package message

import "quorum/api"

// split cuts a text at every such byte. Parts may be empty: whoever reads them refuses that.
func split(text string, at byte) []string {
	var parts []string
	begin := 0
	for i := 0; i < len(text); i++ {
		if text[i] == at {
			parts = append(parts, text[begin:i])
			begin = i + 1
		}
	}
	return append(parts, text[begin:])
}

// number reads a number; the range is looked at digit by digit, so that no length makes it overflow.
func number(text string, low int, high int) (int, bool) {
	if len(text) == 0 || len(text) > 1 && text[0] == '0' {
		return 0, false
	}
	value := 0
	for i := 0; i < len(text); i++ {
		if !isDigit(text[i]) {
			return 0, false
		}
		value = value*10 + int(text[i]-'0')
		if value > high {
			return 0, false
		}
	}
	if value < low {
		return 0, false
	}
	return value, true
}

// entry reads CLIENT.NUM.OP.
func entry(text string, n int) (api.Entry, bool) {
	parts := split(text, '.')
	if len(parts) != 3 {
		return api.Entry{}, false
	}
	client, isClient := number(parts[0], 1, api.MaxClients)
	num, isNum := number(parts[1], 1, api.MaxNum)
	if !isClient || !isNum {
		return api.Entry{}, false
	}
	e := api.Entry{Client: client, Num: num, Op: fresh(parts[2])}
	if !isOperation(e.Op) && NextGroup(e, n) == nil {
		return api.Entry{}, false
	}
	return e, true
}

// isOperation: an entry's r is none: a client may not ask for it by q.
func isOperation(op string) bool {
	if len(op) < 2 || !isLetter(op[1]) {
		return false
	}
	switch op[0] {
	case 'g', 'd':
		return len(op) == 2
	case 'p':
		return len(op) == 3 && isValue(op[2])
	case 'c':
		return len(op) == 4 && isValue(op[2]) && isValue(op[3])
	}
	return false
}

func isValue(b byte) bool {
	return isLetter(b) || isDigit(b)
}

func isLetter(b byte) bool {
	return b >= 'a' && b <= 'z'
}

func isDigit(b byte) bool {
	return b >= '0' && b <= '9'
}

// fresh copies a piece of a text that outlives it: the text is the caller's, and a piece would hold all of it.
func fresh(text string) string {
	return string([]byte(text))
}
