package sample

import (
	"marline/api"
	"marline/eval"
)

// Fate is a run, and what it came to.
type Fate struct {
	In         string
	Fuel, Deep int
	Trace      api.Trace
	Errno      api.Errno
}

// Runs are what a module's runs come to: always the same ones, with some inputs, and with little fuel and much, few calls and many.
func Runs(m api.Module) []Fate {
	var out []Fate
	for _, in := range []string{"", "a", "\x00\xffmany bytes of input"} {
		for _, fuel := range []int{0, 1, 2, 3, 4, 5, 6, 7, 9, 12, 17, 26, 40, 80, 2000} {
			for _, deep := range []int{1, 2, 20} {
				t, e := eval.Run(m, in, fuel, deep)
				out = append(out, Fate{in, fuel, deep, t, e})
			}
		}
	}
	return out
}
