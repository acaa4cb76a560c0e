package trans

import (
	"patchbay/aiger"
	"patchbay/api"
	"patchbay/bench"
	"patchbay/blif"
	"patchbay/lower"
	"patchbay/packed"
	"patchbay/raise"
	"patchbay/verilog"
)

// format is how the texts of a format are read and written.
type format struct {
	letters bool
	denote  func(s string) (api.Model, error)
	read    func(s string) (api.Circuit, error)
	write   func(c api.Circuit) (string, error)
	put     func(m api.Model) (string, error)
}

func isFormat(f api.Format) bool { return api.FmtAag <= f && f <= api.FmtVerilog }

func formats() [5]format {
	return [5]format{
		api.FmtAag:     ofGraphs(aiger.Parse, aiger.Print),
		api.FmtAig:     ofGraphs(packed.Parse, packed.Print),
		api.FmtBlif:    ofNetlists(blif.Parse, blif.Print),
		api.FmtBench:   ofNetlists(bench.Parse, bench.Print),
		api.FmtVerilog: ofNetlists(verilog.Parse, verilog.Print),
	}
}

// ofGraphs is a format whose texts are models.
func ofGraphs(parse func(string) (api.Model, api.Fail), text func(api.Model) (string, api.Errno)) format {
	denote := func(s string) (api.Model, error) {
		m, f := parse(s)
		if f.Err != api.OK {
			return api.Model{}, somewhere(f)
		}
		m, e := raise.Normal(m)
		return m, nowhere(e)
	}
	put := func(m api.Model) (string, error) {
		s, e := text(m)
		return s, nowhere(e)
	}
	return format{
		denote: denote,
		put:    put,
		read: func(s string) (api.Circuit, error) {
			m, err := denote(s)
			if err != nil {
				return api.Circuit{}, err
			}
			return raised(m)
		},
		write: func(c api.Circuit) (string, error) {
			m, err := lowered(c)
			if err != nil {
				return "", err
			}
			return put(m)
		},
	}
}

// ofNetlists is a format whose texts are netlists.
func ofNetlists(parse func(string) (api.Circuit, api.Fail), text func(api.Circuit) (string, api.Errno)) format {
	read := func(s string) (api.Circuit, error) {
		c, f := parse(s)
		return c, somewhere(f)
	}
	write := func(c api.Circuit) (string, error) {
		s, e := text(c)
		return s, nowhere(e)
	}
	return format{
		letters: true,
		read:    read,
		write:   write,
		denote: func(s string) (api.Model, error) {
			c, err := read(s)
			if err != nil {
				return api.Model{}, err
			}
			return lowered(c)
		},
		put: func(m api.Model) (string, error) {
			c, err := raised(m)
			if err != nil {
				return "", err
			}
			return write(c)
		},
	}
}

func lowered(c api.Circuit) (api.Model, error) {
	m, e, _ := lower.Lower(c)
	return m, nowhere(e)
}

func raised(m api.Model) (api.Circuit, error) {
	c, e := raise.Raise(m)
	return c, nowhere(e)
}
