package fault

import (
	"errors"
	"strconv"
	"strings"

	"variorum/api"
)

// failure is a fault as an error: the innermost link of every chain.
type failure struct {
	api.Fault
}

// Error leaves out a negative position: it means that there is none.
func (x failure) Error() string {
	s := faultWord + strconv.Itoa(int(x.Code))
	if x.At < 0 {
		return s
	}
	return s + atWord + strconv.Itoa(x.At)
}

// Is lets errors.Is ask for a code, wherever the fault is.
func (x failure) Is(target error) bool {
	t, ok := target.(failure)
	return ok && t.Code == x.Code
}

// stage is a named step of the program, and the error that it met.
type stage struct {
	name  string
	inner error
}

// Unwrap lets errors.As and errors.Is pass through the stage.
func (s *stage) Unwrap() error { return s.inner }

// Error is the text of the chain from this stage inwards. It goes along the
// stages in a loop: stages that called one another would copy the text of a
// long chain once for each of them.
func (s *stage) Error() string {
	var b strings.Builder
	for {
		b.WriteString(s.name)
		b.WriteString(stageEnd)
		next, ok := s.inner.(*stage)
		if !ok {
			break
		}
		s = next
	}
	b.WriteString(s.inner.Error())
	return b.String()
}

// wrap goes backwards, as the first stage is the outermost one.
func wrap(f api.Fault, stages []string) error {
	var err error = failure{f}
	for i := len(stages) - 1; i >= 0; i-- {
		err = &stage{stages[i], err}
	}
	return err
}

// stagesOf asks anew below each stage that it finds, as errors.As stops at the
// outermost one.
func stagesOf(err error) []string {
	var names []string
	var s *stage
	for errors.As(err, &s) {
		names = append(names, s.name)
		err = s.inner
	}
	return names
}
