package mbox

import (
	"strings"

	"postbag/api"
	"postbag/dates"
)

const (
	begin     = "From "
	maxSender = 200
	boxLength = len("Thu Jan  1 00:00:00 1970") // Box writes as many of every moment
)

// Separator is what a separator line says.
func Separator(line string) (sender string, t int, err error) {
	sender, box, found := parts(line)
	if !found || !isRight(sender) {
		return "", 0, api.ErrForm
	}
	t, found = momentOf(box)
	if !found {
		return "", 0, api.ErrForm
	}
	return sender, t, nil
}

// separatorOf is the line that Separator reads.
func separatorOf(sender string, t int) (string, error) {
	if !isRight(sender) {
		return "", api.ErrName
	}
	box, err := dates.Box(t)
	if err != nil {
		return "", err
	}
	return begin + sender + " " + box + "\n", nil
}

func isRight(sender string) bool {
	if len(sender) < 1 || len(sender) > maxSender {
		return false
	}
	for i := range len(sender) {
		if sender[i] < 33 || sender[i] > 126 {
			return false
		}
	}
	return true
}

// parts is what stands where the sender and the moment should, which are not yet known to be right.
func parts(line string) (sender, box string, found bool) {
	rest, begun := strings.CutPrefix(line, begin)
	rest, ended := strings.CutSuffix(rest, "\n")
	if !begun || !ended {
		return "", "", false
	}
	// A right sender has no blank in it, the moment has some.
	return strings.Cut(rest, " ")
}

// momentOf is the moment that Box writes so. Layer 1 has no call that reads Box's text: its pieces are laid as ParseInternal wants them, and the moment is then written again, since the day of the week has no place there.
func momentOf(box string) (t int, found bool) {
	if len(box) != boxLength {
		return 0, false
	}
	month, day, clock, year := box[4:7], box[8:10], box[11:19], box[20:]
	t, err := dates.ParseInternal(day + "-" + month + "-" + year + " " + clock + " +0000")
	if err != nil {
		return 0, false
	}
	again, err := dates.Box(t)
	return t, err == nil && again == box
}
