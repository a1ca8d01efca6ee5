package rec

import (
	"slices"

	"reveille/api"
	"reveille/name"
)

// Right tells whether a record may be.
func Right(m api.Msg) bool {
	number, zero := from(0, api.MaxNum), from(0, 0)
	if !number(numbers(m)...) {
		return false
	}
	switch m.Kind {
	case api.Filler:
		return isBare(m) && zero(m.Ref, m.Born) && len(m.Body) <= api.Segment && areNoughts(m.Body)
	case api.Message:
		return isWhole(m) && zero(m.Due, m.Ref)
	case api.Scheduled, api.Delivery:
		return isWhole(m)
	case api.Cancel:
		return isBare(m) && m.Body == ""
	}
	return false
}

// from is what asks of a list of numbers whether all are from least to most.
func from(least, most int) func(l ...int) bool {
	return func(l ...int) bool {
		for _, n := range l {
			if n < least || n > most {
				return false
			}
		}
		return true
	}
}

// isBare tells whether a record has no more than a kind, a body, a Ref and a Born.
func isBare(m api.Msg) bool {
	zero := from(0, 0)
	return zero(m.Queue, m.Due, m.Retry, len(m.Keys)) && m.Topic == "" && m.Tag == ""
}

// isWhole tells whether a record has what one must that can be pulled, now or later.
func isWhole(m api.Msg) bool {
	queue, retry := from(0, api.MaxQueues-1), from(0, api.MaxRetry)
	return queue(m.Queue) && retry(m.Retry) && name.Topic(m.Topic) && name.Tag(m.Tag) &&
		areKeys(m.Keys) && len(m.Body) <= api.MaxBody
}

// areKeys tells whether a list is one that a record may have.
func areKeys(l []string) bool {
	return len(l) <= api.MaxKeys && name.All(name.Key, l...) && areUnlike(l)
}

func areUnlike(l []string) bool {
	for i, s := range l {
		if slices.Contains(l[:i], s) {
			return false
		}
	}
	return true
}
