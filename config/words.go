package config

// What lines begin with.
const (
	headLine   = "fretsaw 1"
	passWord   = "pass"
	ruleWord   = "rule"
	splitWord  = "split"
	mergeWord  = "merge"
	nameWord   = "name"
	beforeWord = "before"
	afterWord  = "after"
)

// What stands between words, and around and within quoted texts.
const (
	blank  = " "
	arrow  = "->"
	quote  = `"`
	escape = `\`
	remark = "#"
)

// plain tells whether a byte stands as it is in a quoted text, if it is neither `"` nor `\`.
func plain(b byte) bool { return b >= ' ' && b <= '~' }
