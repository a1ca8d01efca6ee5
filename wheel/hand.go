package wheel

// hand is a time: up to it all is done.
type hand struct{ at int }

// turn lets it go on by one second, if it is below now.
func (h *hand) turn(now int) bool {
	if h.at >= now {
		return false
	}
	h.at++
	return true
}

// ahead is how many seconds lie between it and now.
func (h *hand) ahead(now int) int {
	return max(now, h.at) - h.at // of a now far below 0 the difference may be less than an int holds
}
