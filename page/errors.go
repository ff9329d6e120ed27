package page

import (
	"marline/api"
)

// The most bytes of a number, and what may be done with a page at the most.
const (
	mostBytes = 8
	allPerms  = api.PX | api.PW | api.PR
)

// rightPage: is a page right by itself?
func rightPage(p api.Page) bool {
	return p.At%api.PageSize == 0 && rightPerm(p.Perm) && len(p.Data) == api.PageSize
}

// rightPerm: may that be done with a page?
func rightPerm(perm int) bool {
	return 0 <= perm && perm <= allPerms
}

// mapError is why there can't be n new pages from at on.
func mapError(m []api.Page, at uint64, n, perm int) api.Errno {
	switch {
	case !Right(m), at%api.PageSize != 0, n < 1, n > api.MaxPages, !rightPerm(perm), beyond(at, n*api.PageSize):
		return api.ErrArg
	case anyThere(m, at, n):
		return api.ErrTwice
	case len(m)+n > api.MaxPages:
		return api.ErrBig
	}
	return api.OK
}

// numberError is why there can't be a number of n bytes at at that is used so.
func numberError(m []api.Page, at uint64, n, perm int) api.Errno {
	switch {
	case n < 1, n > mostBytes, !Right(m):
		return api.ErrArg
	case !allGrant(m, at, n, perm):
		return api.ErrPerm
	}
	return api.OK
}

// fillError is why there can't be bytes from at on.
func fillError(m []api.Page, at uint64, s string) api.Errno {
	switch {
	case !Right(m):
		return api.ErrArg
	case !allGrant(m, at, len(s), 0): // every page grants 0: only one that isn't there refuses
		return api.ErrNone
	}
	return api.OK
}

// anyThere: is one of n pages from at on in m?
func anyThere(m []api.Page, at uint64, n int) bool {
	for x := range stretches(at, n*api.PageSize) {
		if _, there := find(m, x.page); there {
			return true
		}
	}
	return false
}

// allGrant: has each of n places from at on a page that grants perm?
func allGrant(m []api.Page, at uint64, n, perm int) bool {
	if beyond(at, n) {
		return false
	}
	for x := range stretches(at, n) {
		if !grants(m, x.page, perm) {
			return false
		}
	}
	return true
}

// grants: is there a page at at, and does it grant perm?
func grants(m []api.Page, at uint64, perm int) bool {
	i, there := find(m, at)
	switch {
	case !there:
		fallthrough // a page that isn't there grants nothing, and can't be asked
	case m[i].Perm&perm != perm:
		return false
	}
	return true
}
