package fd

import "seabag/api"

// Pipe is bytes that are written at its end, and read from its beginning.
type Pipe struct{ left []byte }

// NewPipe is a pipe with bytes.
func NewPipe(s string) *Pipe { return &Pipe{left: []byte(s)} }

// Left is what wasn't read.
func (p *Pipe) Left() string { return string(p.left) }

// Read reads at most so many bytes.
func (p *Pipe) Read(most int) string {
	n := min(max(most, 0), len(p.left))
	s := string(p.left[:n])
	p.left = p.left[n:]
	return s
}

// Write writes bytes, all of them or none.
func (p *Pipe) Write(s string) api.Errno {
	if len(p.left)+len(s) > api.MaxFile {
		return api.ErrLong
	}
	p.left = append(p.left, s...)
	return api.OK
}
