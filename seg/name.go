package seg

import (
	"strconv"
	"strings"
)

const (
	digits   = 8
	mostName = 99999999 // of a greater one there are more digits
)

// Name is a segment's name.
func Name(head string, at int) (string, bool) {
	if at < 0 || at > mostName {
		return "", false
	}
	s := strconv.Itoa(at)
	return head + strings.Repeat("0", digits-len(s)) + s, true
}

// Place is the place that a name tells.
func Place(head, name string) (int, bool) {
	s, ok := strings.CutPrefix(name, head)
	if !ok || len(s) != digits {
		return 0, false
	}
	if strings.ContainsFunc(s, func(c rune) bool { return c < '0' || c > '9' }) { // strconv takes a sign, too
		return 0, false
	}
	at, err := strconv.Atoi(s)
	return at, err == nil
}
