package leap

import (
	"strings"

	"civiltime/api"
	"civiltime/civil"
	"civiltime/clock"
)

// maxText is the number of bytes of the longest text that is read.
const maxText = 2000

// Parse returns the table with the given text.
func Parse(s string) (api.LeapTable, api.Errno) {
	if len(s) > maxText {
		return api.LeapTable{}, api.ErrFull
	}
	steps, read := readSteps(s)
	t := api.LeapTable{L: steps}
	switch {
	case !read:
		return api.LeapTable{}, api.ErrForm
	case !Valid(t):
		return api.LeapTable{}, api.ErrArg
	}
	return t, api.OK
}

// readSteps returns a step for each line of s, also where these are no steps of a valid table; ok is false if a line is no date, or does not end.
func readSteps(s string) (steps []api.LeapStep, ok bool) {
	for s != "" {
		line, rest, ended := strings.Cut(s, "\n")
		date, e := civil.Parse(line)
		if !ended || e != api.OK {
			return nil, false
		}
		begin, _ := clock.Of(api.Moment{Date: date})
		steps = append(steps, api.LeapStep{At: begin + api.DaySeconds, Total: len(steps) + 1})
		s = rest
	}
	return steps, true
}

// Text returns the text of a table.
func Text(t api.LeapTable) (string, api.Errno) {
	if !Valid(t) {
		return "", api.ErrArg
	}
	var b strings.Builder
	for _, step := range t.L {
		// The instant before a step lies on the day at whose end the second was inserted.
		m, _ := clock.Moment(step.At - 1)
		b.WriteString(civil.Text(m.Date))
		b.WriteByte('\n')
	}
	return b.String(), api.OK
}
