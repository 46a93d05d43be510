package seam

import "seam/api"

// Pack writes rules as bytes (P9). These are the source: whatever bytes come
// to Load, it is reading them anew that keeps every bound of the rules.
func (r *Rules) Pack() string { return r.source }

// Load reads rules that were packed (P9).
func Load(s string) (*Rules, api.Errno) {
	r, _, errno := Compile(s)
	if errno != api.OK {
		return nil, api.ErrPack
	}
	return r, api.OK
}
