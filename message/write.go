package message

import (
	"quorum/api"
	"strconv"
)

// Reply is the text of y.
func Reply(client int, num int, result string) string {
	return "y " + strconv.Itoa(client) + " " + strconv.Itoa(num) + " " + result
}

// Write is the text of a replica's message.
func Write(m Message) string {
	head := string(rune(m.Kind)) + " " + strconv.Itoa(m.From) + " " + livesText(m.Lives)
	return head + " " + strconv.Itoa(m.Epoch) + " " + strconv.Itoa(m.View) + rest(m)
}

// rest is what stands behind VIEW, with the blank ahead of it.
func rest(m Message) string {
	switch m.Kind {
	case 'p':
		return " " + strconv.Itoa(m.Place) + " " + entryText(m.Entry) + " " + strconv.Itoa(m.Commit)
	case 'k':
		return " " + strconv.Itoa(m.Place)
	case 'c':
		return " " + strconv.Itoa(m.Commit)
	case 'v':
		return " " + strconv.Itoa(m.Normal) + historyText(m)
	case 's':
		return groupsText(m) + historyText(m)
	case 'a':
		return " " + strconv.Itoa(m.Life) + groupsText(m) + historyText(m)
	}
	return ""
}

func groupsText(m Message) string {
	old := "-"
	if len(m.Old) > 0 {
		old = groupText(m.Old)
	}
	return " " + groupText(m.Group) + " " + old
}

func historyText(m Message) string {
	return " " + strconv.Itoa(m.Commit) + " " + logText(m.Log)
}

func livesText(lives []int) string {
	text := ""
	for i := 0; i < len(lives); i++ {
		if i > 0 {
			text += "."
		}
		text += strconv.Itoa(lives[i])
	}
	return text
}

func groupText(group []int) string {
	text := ""
	for i := 0; i < len(group); i++ {
		text += strconv.Itoa(group[i])
	}
	return text
}

func logText(log []api.Entry) string {
	if len(log) == 0 {
		return "-"
	}
	text := ""
	for i := 0; i < len(log); i++ {
		if i > 0 {
			text += "/"
		}
		text += entryText(log[i])
	}
	return text
}

func entryText(e api.Entry) string {
	return strconv.Itoa(e.Client) + "." + strconv.Itoa(e.Num) + "." + e.Op
}
