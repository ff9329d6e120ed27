package merge_test

import (
	"fmt"
	"strings"

	"marline/api"
)

// kinds are what names of some modules are: a number of Params, or a global.
var kinds = map[string]string{"main": "", "a": "", "b": "/2", "c": "/1", "X": "*", "Y": "*", ".0": "", ".1": "*", ".2": "/2", ".3": "", ".5": "*"}

// named are these names, in an order of their own.
var named = []string{"main", "a", "b", "c", "X", "Y", ".0", ".1", ".2", ".3", ".5"}

// someModules are up to 6 modules of a few names, or some more, each of which is right.
func (r *random) someModules() []api.Module {
	var texts []string
	number, many := 0, 1+r.Below(6)
	if r.Below(10) == 0 {
		many += 9
	}
	for range many {
		var names, words []string
		for _, name := range named {
			if r.Below(3) == 0 {
				names = append(names, name)
			}
		}
		for _, name := range names {
			how := r.OneOf("+", "~", "?", "=", "?", "=", "~", "-", "=")
			if how == "+" && r.Below(many) > 0 {
				how = "~" // or nearly all are defined twice
			}
			if name == "main" {
				how = r.OneOf("~", "?", "=", "~", "~", "~", "+")
			}
			number++
			words = append(words, how+name+kinds[name]+r.rest(how, kinds[name] == "*", number, names))
		}
		texts = append(texts, strings.Join(words, " "))
	}
	return mods(strings.Join(texts, "|"))
}

// rest is the rest of a word: what number it has, if it is here, and what it names.
func (r *random) rest(how string, global bool, number int, names []string) string {
	if how == "?" || how == "-" {
		return ""
	}
	out := fmt.Sprint("#", number)
	mark := ":"
	for !global && r.Below(3) > 0 {
		name := names[r.Below(len(names))]
		out += mark + name + kinds[name]
		if kinds[name] == "*" && r.Below(2) == 0 {
			out = strings.TrimSuffix(out, "*") + "="
		}
		mark = ","
		if strings.Count(out, ",") > 5 {
			break
		}
	}
	return out
}
