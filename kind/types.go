package kind

import "stockade/api"

// A use is an operator and the types of what it stands with; right is 0 of a unary one, as no kid has that type.
type use struct {
	name        string
	left, right int
}

// types is the type of each use that there is.
func types() map[use]int {
	const i, f, b = api.TInt, api.TFloat, api.TBool
	return map[use]int{
		{"-", i, 0}: i, {"-", f, 0}: f,
		{"!", b, 0}:     b,
		{"int", f, 0}:   i,
		{"float", i, 0}: f,

		{"+", i, i}: i, {"+", f, f}: f,
		{"-", i, i}: i, {"-", f, f}: f,
		{"*", i, i}: i, {"*", f, f}: f,
		{"/", i, i}: i, {"/", f, f}: f,
		{"%", i, i}: i,

		{"<", i, i}: b, {"<", f, f}: b,
		{"<=", i, i}: b, {"<=", f, f}: b,
		{">", i, i}: b, {">", f, f}: b,
		{">=", i, i}: b, {">=", f, f}: b,
		{"==", i, i}: b, {"==", f, f}: b, {"==", b, b}: b,
		{"!=", i, i}: b, {"!=", f, f}: b, {"!=", b, b}: b,

		{"&&", b, b}: b,
		{"||", b, b}: b,
	}
}
