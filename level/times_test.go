package level_test

import (
	"math"
	"testing"

	"reveille/api"
	"reveille/level"
)

func TestSlot(t *testing.T) {
	for n := range 5000 {
		if got := level.Slot(n); got != n-n/16*16 {
			t.Errorf("Slot(%d) is %d", n, got)
		}
	}
	for n, want := range map[int]int{
		15: 15, 16: 0, 17: 1, 31: 15, 255: 15, 256: 0, 263: 7, 1 << 32: 0, 1<<32 + 9: 9, 1<<40 - 1: 15, 1 << 40: 0, 1<<40 + 3: 3, last: 8,
		math.MaxInt: 15, math.MaxInt - 1: 14, math.MaxInt - 15: 0,
		-1: 0, -2: 0, -15: 0, -16: 0, -17: 0, -1 << 32: 0, -1<<40 - 5: 0, math.MinInt: 0, math.MinInt + 1: 0, math.MinInt + 7: 0,
	} {
		if got := level.Slot(n); got != want {
			t.Errorf("Slot(%d) is %d, not %d", n, got, want)
		}
	}
}

// TestHowOftenTheHandGoesBy counts it: from now on, ahead of that it is due.
func TestHowOftenTheHandGoesBy(t *testing.T) {
	for _, now := range []int{0, 1, 9, 15, 16, 17, 1000, last} {
		for off := -40; off < 300; off++ {
			due, count := now+off, 0
			for hand := now; hand < due; hand++ {
				if level.Slot(hand) == level.Slot(due) {
					count++
				}
			}
			if got := level.Laps(due, now); got != count {
				t.Errorf("Laps(%d, %d) is %d, not %d", due, now, got, count)
			}
			if got, want := level.Far(due, now), off >= 16; got != want {
				t.Errorf("Far(%d, %d) is %v", due, now, got)
			}
		}
	}
}

func TestLapsAndFar(t *testing.T) {
	for _, c := range []struct {
		due, now, laps int
		far            bool
	}{
		{0, 0, 0, false}, {1, 0, 0, false}, {15, 0, 0, false}, {16, 0, 1, true}, {17, 0, 1, true}, {31, 0, 1, true}, {32, 0, 2, true}, {200, 0, 12, true},
		{107, 100, 0, false}, {115, 100, 0, false}, {116, 100, 1, true}, {131, 100, 1, true}, {132, 100, 2, true},
		{100, 100, 0, false}, {99, 100, 0, false}, {84, 100, 0, false}, {83, 100, 0, false}, {68, 100, 0, false}, {0, 1 << 40, 0, false},
		{-1, 0, 0, false}, {-16, 0, 0, false}, {-32, 0, 0, false}, {0, -1, 0, false}, {0, -15, 0, false}, {0, -16, 1, true}, {-5, -20, 0, false}, {-5, -21, 1, true}, {8, -8, 1, true}, {7, -8, 0, false},
		{1 << 40, 0, 1 << 36, true}, {1<<40 - 1, 0, 1<<36 - 1, true}, {1 << 40, 1, 1<<36 - 1, true},
		{math.MaxInt, math.MaxInt, 0, false}, {math.MaxInt, math.MaxInt - 15, 0, false}, {math.MaxInt, math.MaxInt - 16, 1, true}, {math.MaxInt - 1, math.MaxInt, 0, false},
		{math.MinInt, math.MinInt, 0, false}, {math.MinInt + 15, math.MinInt, 0, false}, {math.MinInt + 16, math.MinInt, 1, true}, {math.MinInt, math.MinInt + 1, 0, false},
		{math.MaxInt, 0, 1<<59 - 1, true}, {math.MaxInt, -1, 1 << 59, true}, {0, math.MinInt, 1 << 59, true}, {-1, math.MinInt, 1<<59 - 1, true},
		{math.MaxInt, math.MinInt, 1<<60 - 1, true}, {math.MaxInt, math.MinInt + 15, 1<<60 - 1, true}, {math.MaxInt, math.MinInt + 16, 1<<60 - 2, true},
		{math.MinInt, math.MaxInt, 0, false}, {math.MinInt, 0, 0, false}, {math.MinInt, 1, 0, false}, {-2, math.MaxInt, 0, false}, {0, math.MaxInt, 0, false},
	} {
		if got := level.Laps(c.due, c.now); got != c.laps {
			t.Errorf("Laps(%d, %d) is %d, not %d", c.due, c.now, got, c.laps)
		}
		if got := level.Far(c.due, c.now); got != c.far {
			t.Errorf("Far(%d, %d) is %v", c.due, c.now, got)
		}
	}
}

// isDue fails, if what is asked for at a time isn't due as wanted.
func isDue(t *testing.T, at, now, want int, wrong api.Errno) {
	t.Helper()
	if got, e := level.Due(at, now); got != want || e != wrong {
		t.Errorf("Due(%d, %d) is %d, %d, not %d, %d", at, now, got, e, want, wrong)
	}
}

func TestDueLater(t *testing.T) {
	for _, now := range within {
		for off := range 201 {
			isDue(t, now+off, now, now+off, api.OK)
		}
	}
}

func TestDueEarlierIsNow(t *testing.T) {
	for _, now := range within {
		for _, at := range []int{now, now - 1, now - 16, now - 200, now - 201, now - 1<<40, 0, -1, -200, -1 << 40, math.MinInt + 1, math.MinInt} {
			if at <= now {
				isDue(t, at, now, now, api.OK)
			}
		}
	}
}

func TestDueTooLate(t *testing.T) {
	for _, now := range within {
		for _, at := range []int{now + 201, now + 202, now + 1000, now + 1<<32, now + 1<<40, 1 << 41, 1<<62 + 7, math.MaxInt - 200, math.MaxInt - 1, math.MaxInt} {
			isDue(t, at, now, 0, api.ErrDue)
		}
	}
}

// TestDueAtNoTime: ErrArg is asked ahead of ErrDue.
func TestDueAtNoTime(t *testing.T) {
	for _, now := range outside {
		for _, at := range []int{now, 0, 1, 100, 200, 201, last, last + 1, last + 200, 1 << 40, math.MaxInt, -1, -200, math.MinInt, now/2 + 100} {
			isDue(t, at, now, 0, api.ErrArg)
		}
	}
}
